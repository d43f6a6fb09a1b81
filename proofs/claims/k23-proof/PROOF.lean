import PyProof.Rows.All
import OpenK.KLine
import OpenK.KWalk
import OpenK.KMore
import OpenK.KOwn
import OpenK.KRaise
import KE.KSortTup
import PyProof.EqAt
import PyProof.EqKinds
import PyProof.TupleCall
import KE.KIsAll
import PyProof.ExcArgsOwn
import PyProof.NsDelKeeps
import KE.KTryMore
import PyProof.InstStoreFacts
import PyProof.ExcInit
import PyProof.ExcClass2
import PyProof.Rows.ListMul
import PyProof.Draws
import PyProof.EnumMake
import PyProof.Rows.EnumRows
import KE.KItemsList
import PyProof.DictCompW
import PyProof.ListRange
import PyProof.ZipIter
import PyProof.AttrMissHeap
import KE.KDictOf
import PySem.Challenge.RW_cutstree_k23_tree_ways
set_option Elab.async false
section
set_option maxRecDepth 100000
set_option maxHeartbeats 0
namespace Q23
open PySem
noncomputable def qv:Program:={ PySem.Challenge.rw_cutstree_k23_tree_ways.prog with main:={ PySem.Challenge.rw_cutstree_k23_tree_ways.prog.main with body:=(((((PySem.Challenge.rw_cutstree_k23_tree_ways.prog.main.body.eraseIdx 26).eraseIdx 18).eraseIdx 13).eraseIdx 4).eraseIdx 0) } }
end Q23
open PySem PySem.W PyProof.Rows
local macro_rules | `(tactic| o_head $H) => `(tactic| (
 refine holds_open (r:=PySem.Challenge.rw_cutstree_k23_tree_ways.row) (q:=Q23.qv) (loose:=[]) (Xt:=fun s=>xlAt Q23.qv [] s&&recOk (RowW.records (OpenRow.toRowW PySem.Challenge.rw_cutstree_k23_tree_ways.row)) s) (XP:=XL Q23.qv []) (Yf:=Hook.obs $H) (Ya:=Hook.val $H) (YP:=Hook.says $H) (N:=6100) ?hl (Hook.of $H) (Hook.keeps $H) (fun s e=>xl_of s (Bool.and_eq_true_iff.mp e).1) XL.keeps (by rfl) (by rfl) (by rfl) (fun s e=>recFacts_of (Bool.and_eq_true_iff.mp e).2) (by rfl) (by first|assumption|decide +kernel) (by decide +kernel) ⟨rfl,rfl,rfl,rfl,rfl,by decide +kernel⟩ ?hw ?hc
 (case hl=>intro w;kernel_rfl)))
open_top Q23.k_top for PySem.Challenge.rw_cutstree_k23_tree_ways
end
section
set_option linter.all false
set_option maxRecDepth 100000
set_option maxHeartbeats 4000000
noncomputable abbrev Fg:=PySem.W.Frag
noncomputable section
abbrev A0:=@Option.bind_some
abbrev A1:=@PySem.wpAny_bind
abbrev A2:=@List.length_map
abbrev A3:=@if_pos
abbrev A4:=@PySem.Heap.get?_push_of_some
abbrev A6:=@Nat.le_refl
abbrev A7:=@if_neg
abbrev A8:=@Bool.false_ne_true
abbrev A9:=@List.mem_cons_of_mem
abbrev B0:=@List.mem_cons_self
abbrev B1:=@decide_eq_true
abbrev B2:=@List.getElem?_append_right
abbrev B3:=@Bool.and_eq_true
abbrev B4:=@List.length_append
abbrev B5:=@PySem.wpAny_pure
abbrev B6:=@List.getD_eq_getElem?_getD
abbrev B7:=@List.map_cons
abbrev B8:=@List.getElem?_eq_getElem
abbrev B9:=@PySem.Heap.lt_size
abbrev C0:=@List.mem_append_right
abbrev C1:=@decide_eq_false
abbrev C2:=@List.append_assoc
abbrev C3:=@Nat.lt_of_lt_of_le
abbrev C4:=@List.append_nil
abbrev C5:=@List.size_toArray
abbrev C6:=@List.length_singleton
abbrev C7:=@Nat.ne_of_lt
abbrev C8:=@List.getElem?_map
abbrev C9:=@List.mem_append_left
abbrev D0:=@List.length_cons
abbrev D1:=@PySem.Heap.get?_push_size
abbrev D2:=@List.mem_singleton
abbrev D3:=@List.map_append
abbrev D4:=@Nat.sub_self
abbrev D5:=@Option.some.inj
abbrev D6:=@of_decide_eq_true
abbrev D7:=@List.set_append_right
abbrev D8:=@decide_eq_true_eq
abbrev D9:=@List.lookup_cons
abbrev E1:=@PySem.wpAny_mono
abbrev E2:=@PySem.wpAny_newObj_type
abbrev E3:=@PySem.PassesOwn.never
abbrev E4:=@PySem.sizeLine_eq
abbrev E5:=@Nat.zero_le
abbrev E6:=@PySem.W.mg_none_of
abbrev E7:=@Bool.true_and
abbrev E8:=@List.map_singleton
abbrev E9:=@Array.getD_eq_getD_getElem?
abbrev F0:=@Nat.le_trans
abbrev F4:=@PySem.mem_of_lookup
abbrev F5:=@Nat.add_sub_cancel_left
abbrev F6:=@congrArg
abbrev F7:=@Bool.and_false
abbrev F8:=@Nat.lt_irrefl
abbrev F9:=@PyProof.Rows.callWith_type1
abbrev I0:=@Int.toNat_natCast
abbrev J1:=@PySem.wpAny_holding
abbrev J2:=@PyProof.Rows.slot_tuple_getitem
abbrev J3:=@of_decide_eq_false
abbrev J4:=@Int.emod_lt_of_pos
abbrev J5:=@Nat.lt_succ_self
abbrev J6:=@Nat.le_add_right
abbrev J7:=@List.getElem?_append_left
abbrev J8:=@PySem.wpAny_field
abbrev J9:=@Bool.false_and
abbrev L7:=@List.mem_of_getElem?
abbrev L8:=@List.getElem?_set_self
abbrev O0:=@List.reverse_cons
abbrev O1:=@beq_eq_false_iff_ne
abbrev O2:=@Int.emod_nonneg
abbrev O3:=@Ne.symm
abbrev O4:=@PySem.wpAny_truthy_bool
abbrev O5:=@PySem.SeqAt.canLay_of_shaped
abbrev O6:=@List.length_take
abbrev O7:=@List.getElem?_set_ne
abbrev O8:=@List.getElem?_of_mem
abbrev O9:=@List.map_map
abbrev S0:=@List.any_cons
abbrev S1:=@List.getElem_mem
abbrev S2:=@List.getElem_map
abbrev S3:=@List.nodup_iff_pairwise_ne
abbrev S4:=@PySem.Heap.get?_update_other
abbrev S5:=@PySem.wpAny_call_entry
abbrev S6:=@PyProof.Rows.boot_tuple
abbrev S7:=@List.filterMap_cons
abbrev S8:=@PySem.wpAny_loadPart'
abbrev S9:=@List.length_reverse
abbrev U0:=@List.mapM_cons
abbrev U1:=@Bool.eq_iff_iff
abbrev U2:=@PySem.wpAny_callSpecial?_slot
abbrev U3:=@List.length_set
abbrev U4:=@List.foldl_cons
abbrev U5:=@List.all_cons
abbrev U6:=@Array.getElem?_toList
abbrev U7:=@List.nodup_append
abbrev U8:=@List.length_range
abbrev U9:=@PySem.Obj.data_mapFields
abbrev Y0:=@PySem.wpAny_passesOwn
abbrev Y1:=@PySem.boot_len
abbrev Y2:=@List.getElem_inj
abbrev Y3:=@Int.le_trans
abbrev Y4:=@List.drop_eq_getElem_cons
abbrev Y5:=@List.map_congr_left
abbrev Y6:=@List.getElem?_take_of_lt
abbrev Y7:=@PySem.F.slot_tuple_iterator_next
abbrev Y8:=@List.length_nil
abbrev Y9:=@List.zip_cons_cons
abbrev Z0:=@beq_iff_eq
abbrev Z1:=@List.getElem?_replicate
abbrev Z2:=@PySem.Heap.get?_update_ne
abbrev Z3:=@Nat.le_of_lt
abbrev Z4:=@PySem.wpAny_standAt
abbrev Z5:=@List.pairwise_map
abbrev Z6:=@PySem.wpAny_Call_Name_kw
abbrev Z7:=@List.length_drop
abbrev Z8:=@Bool.and_true
abbrev Z9:=@Sum.inl.inj
abbrev A0a:=@Nat.le_succ
abbrev A0b:=@PyProof.Rows.get?_update_seq
abbrev A0c:=@Array.length_toList
abbrev A0d:=@PySem.Heap.get?_update_self
abbrev A0e:=@PySem.Paired.length
abbrev A0f:=@List.nodup_nil
abbrev A0g:=@PySem.PyData.eqvAll.eq_def
abbrev A0h:=@PySem.wpAny_execs_nil
abbrev A0i:=@PySem.codeAny_mono
abbrev A0j:=@PySem.tupleKind_room_in1
abbrev A0k:=@PySem.wpAny_pyIter_tuple
abbrev A0l:=@PySem.wpAny_setField
namespace L2
variable{H:Hp}{s:Shared}{σ:St}{K:Fg}{A:Around}{pos:Pos}
open PySem PySem.Spec PyProof.Rows
noncomputable abbrev Key:=Sum Int Str
noncomputable def xY:Key->Value->Bool
 |.inl k,v=>Value.isInt k v
 |.inr x,v=>Value.isStrOf x v
noncomputable def aJn(w:World):Key->Int
 |.inl k=>hashInt k
 |.inr x=>hashStr w x
theorem dG:∀{k:Key}{v:Value},xY k v=true->(∃i t,k=Sum.inl i/\v=Value.int i t)\/(∃x t,k=Sum.inr x/\v=Value.str x t)
 |.inl i,v=>fun h=>by
  obtain⟨t,e⟩:=Value.isInt_shape (k:=i) (v:=v) h;exact .inl ⟨i,t,rfl,e⟩
 |.inr x,v=>fun h=>by
  obtain⟨t,e⟩:=Value.isStrOf_shape (x:=x) (v:=v) h;exact .inr ⟨x,t,rfl,e⟩
theorem TC(i:Int)(t:Tok):xY (.inl i) (.int i t)=true:=by simp[xY,Value.isInt]
theorem RX(x:Str)(t:Tok):xY (.inr x) (.str x t)=true:=by simp[xY,Value.isStrOf]
theorem aFG(a b:Int):decide ((Sum.inl a:Key)=Sum.inl b)=(a==b):=by
 by_cases e:a=b
 .subst e;simp
 .have h:¬(Sum.inl a:Key)=Sum.inl b:=fun q=>e (Z9 q);rw[C1 h];exact(beq_eq_false_iff_ne.mpr e).symm
theorem aED(a b:Str):decide ((Sum.inr a:Key)=Sum.inr b)=decide (a=b):=by
 by_cases e:a=b
 .subst e;simp
 .have h:¬(Sum.inr a:Key)=Sum.inr b:=fun q=>e (Sum.inr.inj q);rw[C1 h,C1 e]
theorem aEa(a:Int)(b:Str):decide ((Sum.inl a:Key)=Sum.inr b)=false:=C1 (fun q=>nomatch q)
theorem aGd(a:Str)(b:Int):decide ((Sum.inr a:Key)=Sum.inl b)=false:=C1 (fun q=>nomatch q)
noncomputable def dS(prog:Program)(w:World):PySem.KeyKind prog w Key where
 is:=xY
 hash:=aJn w
 inj:=fun v a b ha hb=>by
  rcases dG ha with⟨i,t,rfl,rfl⟩|⟨x,t,rfl,rfl⟩
  .rcases dG hb with⟨j,u,rfl,e⟩|⟨y,u,rfl,e⟩
   .injection e with e1 _;rw[e1]
   .exact nomatch e
  .rcases dG hb with⟨j,u,rfl,e⟩|⟨y,u,rfl,e⟩
   .exact nomatch e
   .injection e with e1 _;rw[e1]
 byValue:=fun k v h=>by
  rcases dG h with⟨i,t,rfl,rfl⟩|⟨x,t,rfl,rfl⟩<;>rfl
 pyHash:=fun hv h=>by
  rcases dG hv with⟨i,t,rfl,rfl⟩|⟨x,t,rfl,rfl⟩
  .exact wpAny_pyHash_int h
  .exact wpAny_pyHash_str h
 eqBool:=fun hu hv h=>by
  rcases dG hu with⟨i,t,rfl,rfl⟩|⟨x,t,rfl,rfl⟩
  .rcases dG hv with⟨j,u,rfl,rfl⟩|⟨y,u,rfl,rfl⟩
   .rw[aFG]at h;exact wpAny_eqBool_int h
   .rw[aEa]at h;exact SeqAt.EqAt.int_str i t y u _ _ _ _ h
  .rcases dG hv with⟨j,u,rfl,rfl⟩|⟨y,u,rfl,rfl⟩
   .rw[aGd]at h;exact SeqAt.EqAt.str_int x t j u _ _ _ _ h
   .rw[aED]at h;exact wpAny_eqBool_str h
 «strs»:=fun k x t v h=>by
  rcases dG h with⟨i,u,rfl,e⟩|⟨y,u,rfl,e⟩
  .exact nomatch e
  .injection e with e1 _
   subst e1;cases v<;>rfl
theorem NQ(prog:Program)(w:World)(k:Key)(v:Value):(dS prog w).is k v=xY k v:=rfl
theorem LJ(prog:Program)(w:World)(i:Int)(t:Tok):(dS prog w).is (.inl i) (.int i t)=true:=TC i t
theorem JI(prog:Program)(w:World)(x:Str)(t:Tok):(dS prog w).is (.inr x) (.str x t)=true:=RX x t
inductive V where
 |non|bl (b:Bool)|int (i:Int)|str (x:Str)|byt (b:Array UInt8)|flt (b:UInt64)|ref (a:Addr)|ty (n:String)
 deriving DecidableEq
noncomputable def RelV:V->Value->Prop
 |.non,u=>u=Value.none
 |.bl b,u=>u=Value.bool b
 |.int i,u=>∃t,u=Value.int i t
 |.str x,u=>∃t,u=Value.str x t
 |.byt b,u=>∃t,u=Value.bytes b t
 |.flt b,u=>∃t,u=Value.float b t
 |.ref a,u=>u=Value.ref a
 |.ty n,u=>u=Value.type n
noncomputable abbrev bE:List V->List Value->Prop:=Paired RelV
theorem bE.length{xs:List V}{us:List Value}(r:bE xs us):xs.length=us.length:=A0e r
theorem bE.get:∀{xs:List V}{us:List Value}{i:Nat}{x:V},bE xs us->xs[i]?=some x->∃u,us[i]?=some u/\RelV x u
 |_,_,_,_,.nil=>fun e=>by simp at e
 |_,_,0,_,.cons r _=>fun e=>by simp at e;subst e;exact⟨_,rfl,r⟩
 |_,_,i+1,x,.cons _ t=>fun e=>by
  obtain⟨u,h1,h2⟩:=bE.get (i:=i) (x:=x) t (by simpa using e);exact⟨u,by simpa using h1,h2⟩
theorem bE.set{x:V}{u:Value}(r:RelV x u):∀{xs:List V}{us:List Value}(i:Nat),bE xs us->bE (xs.set i x) (us.set i u)
 |_,_,_,.nil=>.nil
 |_,_,0,.cons _ t=>.cons r t
 |_,_,i+1,.cons q t=>.cons q (bE.set r i t)
theorem bE.append:∀{xs ys:List V}{us ws:List Value},bE xs us->bE ys ws->bE (xs++ys) (us++ws)
 |_,_,_,_,.nil=>fun s=>s
 |_,_,_,_,.cons r t=>fun s=>.cons r (bE.append t s)
theorem bE.take:∀{xs:List V}{us:List Value}(n:Nat),bE xs us->bE (xs.take n) (us.take n)
 |_,_,0,_=>.nil
 |_,_,_+1,.nil=>.nil
 |_,_,n+1,.cons r t=>.cons r (bE.take n t)
theorem bE.drop:∀{xs:List V}{us:List Value}(n:Nat),bE xs us->bE (xs.drop n) (us.drop n)
 |_,_,0,r=>r
 |_,_,_+1,.nil=>.nil
 |_,_,n+1,.cons _ t=>bE.drop n t
noncomputable def CI:Option V->Option Value->Prop
 |some v,some u=>RelV v u
 |none,none=>True
 |_,_=>False
noncomputable def KV{κ:Type}:List (κ×V)->List (κ×Value)->Prop:=Paired fun(p:κ×V)(q:κ×Value)=>p.1=q.1/\RelV p.2 q.2
noncomputable def kV:Key->V
 |.inl i=>.int i
 |.inr x=>.str x
inductive HO where
 |lst (xs:List V)
 |tup (xs:List V)
 |dK (kvs:List (Key×V))|dT (kvs:List (List Key×V))
 |set (S:Int->Bool) (n:Nat)
 |ins (C dx:Addr) (fs:List (Str×V))
 |own (x:Addr)
 |xd (fs:List (Str×V))
 |met (f x:Addr)
 |rng (lo hi:Int)
 |frz (o:Obj) (u:HO)
 |tbl (ps:Array Value)
 |ext (φ:Heap->Prop)
noncomputable abbrev Hp:=Addr->Option HO
noncomputable def upd(H:Hp)(a:Addr)(o:HO):Hp:=fun b=>if b=a then some o else H b
theorem aY{a:Addr}{o:HO}:upd H a o a=some o:=by unfold upd;rw[A3 rfl]
theorem aV{a b:Addr}{o:HO}(h:b≠a):upd H a o b=H b:=by unfold upd;rw[A7 h]
theorem aDH{a b:Addr}{o u:HO}(h:H a=some o)(h':H b=some u)(d:o≠u):a≠b:=by
 intro e;subst e;rw[h]at h';exact d (D5 h')
theorem aU{a b:Addr}{o:HO}(h:H a=some o)(h':H b=none):a≠b:=by
 intro e;subst e;rw[h]at h';cases h'
section
variable(P:Program)(w:World)
noncomputable def eL(H:Hp)(h:Heap)(a:Addr):HO->Prop
 |.lst xs=>xs.length<=sizeLine/\∃(its:List Value)(n:Nat),bE xs its/\h.get? a=some { cls:=.type "list",data:=.seq its.toArray n }
 |.tup xs=>xs.length<=sizeLine/\∃its:List Value,bE xs its/\IsTup h a its.toArray
 |.dK kvs=>kvs.length<=sizeLine/\(a==sysModules)=false/\∃vs,KV kvs vs/\h.DictOf (dS P w) a vs
 |.dT kvs=>kvs.length<=sizeLine/\(a==sysModules)=false/\∃xs:List (List Key×Addr×Value),
  Paired (fun(p:List Key×V)(q:List Key×Addr×Value)=>p.1=q.1/\H q.2.1=some (.tup (p.1.map kV))/\RelV p.2 q.2.2) kvs xs /\
  ∃o es ep,h.get? a=some o/\o.ExactDict/\o.data=.dict es ep/\es.toList=xs.map (entryOfKey (tupleKind (dS P w)))/\(xs.map (·.1)).Nodup
 |.set S n=>h.SetOf (intKind P w) a S n
 |.ins C dx fs=>H dx=some (.own a)/\fs.length<=1000/\dx≠a/\h.get? a=some (PySem.W.instObj C dx) /\
  ∃mA,h.Ns1 dx mA/\(∀f,CI (fs.lookup f) (mA f))/\PySem.Within mA (fs.map (·.1))
 |.own _=>∃o,h.get? a=some o
 |.xd fs=>∃mA,h.Ns1 a mA/\∀f,CI (fs.lookup f) (mA f)
 |.rng lo hi=>∃t u v,h.get? a=some { cls:=.type "range",data:=.fields #[.int lo t,.int hi u,.int 1 v] }
 |.frz o u=>h.get? a=some o/\eL H h a u
 |.tbl ps=>h.get? a=some { cls:=.none,data:=.fields ps }
 |.met f x=>h.get? a=some (PySem.W.methodObj (.ref f) (.ref x))
 |.ext φ=>φ h/\(∃o,h.get? a=some o)/\∀h1 h2:Heap,φ h1->(∀o,h1.get? a=some o->h2.get? a=some o)->φ h2
noncomputable def HOk(H:Hp)(h:Heap):Prop:=∀a o,H a=some o->eL P w H h a o
end
section
variable{P:Program}{w:World}{H H':Hp}{h h':Heap}{a:Addr}{o:HO}
theorem eL.lt(x:eL P w H h a o):a<h.objs.size:=by
 cases o with
 |lst xs=>obtain⟨_,_,_,_,e⟩:=x;exact B9 e
 |tup xs=>obtain⟨_,_,_,p⟩:=x;exact p.lt
 |dK kvs=>obtain⟨_,_,_,_,o,_,_,e,_⟩:=x;exact B9 e
 |dT kvs=>obtain⟨_,_,_,_,o,_,_,e,_⟩:=x;exact B9 e
 |set S n=>obtain⟨o,_,_,_,e,_⟩:=x;exact B9 e
 |ins C dx fs=>obtain⟨_,_,_,e,_⟩:=x;exact B9 e
 |own y=>obtain⟨_,e⟩:=x;exact B9 e
 |xd fs=>obtain⟨_,⟨_,_,_,e,_⟩,_⟩:=x;exact B9 e
 |rng lo hi=>obtain⟨_,_,_,e⟩:=x;exact B9 e
 |frz ob u=>obtain⟨e,_⟩:=x;exact B9 e
 |tbl ps=>exact B9 (show h.get? a=some _ from x)
 |met f y=>exact B9 (show h.get? a=some _ from x)
 |ext φ=>obtain⟨_,⟨_,e⟩,_⟩:=x;exact B9 e
theorem Paired.mapP{α β:Type}{F G:α->β->Prop}:∀{l₁:List α}{l₂:List β},Paired F l₁ l₂->(∀a b,F a b->G a b)->Paired G l₁ l₂
 |_,_,.nil=>fun _=>.nil
 |_,_,.cons r t=>fun f=>.cons (f _ _ r) (Paired.mapP t f)
theorem eL.stay(x:eL P w H h a o)(k:∀b u,(b=a\/H b=some (.own a))->h.get? b=some u->h'.get? b=some u)
 (ho:∀b,H b=some (.own a)->H' b=some (.own a)) (ht:∀b xs,H b=some (.tup xs)->H' b=some (.tup xs)):eL P w H' h' a o:=by
 induction o with
 |lst xs=>obtain⟨z,its,n,r,e⟩:=x;exact⟨z,its,n,r,k _ _ (.inl rfl) e⟩
 |tup xs=>obtain⟨z,its,r,ob,e,c⟩:=x;exact⟨z,its,r,ob,k _ _ (.inl rfl) e,c⟩
 |dK kvs=>obtain⟨z,y,vs,r,ob,es,ep,e,c⟩:=x;exact⟨z,y,vs,r,ob,es,ep,k _ _ (.inl rfl) e,c⟩
 |dT kvs=>
  obtain⟨z,y,xs,r,ob,es,ep,e,c⟩:=x;exact⟨z,y,xs,Paired.mapP r fun p q z=>⟨z.1,ht _ _ z.2.1,z.2.2⟩,ob,es,ep,k _ _ (.inl rfl) e,c⟩
 |set S n=>obtain⟨ob,es,ep,t,e,c⟩:=x;exact⟨ob,es,ep,t,k _ _ (.inl rfl) e,c⟩
 |ins C dx fs=>
  obtain⟨d,z,ne,e,mA,⟨od,es,ep,e2,c⟩,r⟩:=x;exact⟨ho _ d,z,ne,k _ _ (.inl rfl) e,mA,⟨od,es,ep,k _ _ (.inr d) e2,c⟩,r⟩
 |own y=>obtain⟨ob,e⟩:=x;exact⟨ob,k _ _ (.inl rfl) e⟩
 |xd fs=>obtain⟨mA,⟨od,es,ep,e,c⟩,r⟩:=x;exact⟨mA,⟨od,es,ep,k _ _ (.inl rfl) e,c⟩,r⟩
 |rng lo hi=>obtain⟨t,u,v,e⟩:=x;exact⟨t,u,v,k _ _ (.inl rfl) e⟩
 |frz ob u ih=>obtain⟨e,q⟩:=x;exact⟨k _ _ (.inl rfl) e,ih q⟩
 |tbl ps=>
  have e:h.get? a=some { cls:=.none,data:=.fields ps }:=x;show h'.get? a=some { cls:=.none,data:=.fields ps };exact k a _ (.inl rfl) e
 |met f y=>
  have e:h.get? a=some (PySem.W.methodObj (.ref f) (.ref y)):=x;show h'.get? a=some (PySem.W.methodObj (.ref f) (.ref y));exact k a _ (.inl rfl) e
 |ext φ=>obtain⟨p,⟨o,e⟩,st⟩:=x;exact⟨st _ _ p fun o q=>k _ _ (.inl rfl) q,⟨o,k _ _ (.inl rfl) e⟩,st⟩
theorem HOk.lt(x:HOk P w H h)(e:H a=some o):a<h.objs.size:=(x a o e).lt
theorem HOk.fresh(x:HOk P w H h)(e:h.objs.size<=a):H a=none:=by
 cases q:H a with
 |none=>rfl
 |some u=>exact absurd (C3 (x.lt q) e) (F8 _)
theorem HOk.kept(x:HOk P w H h)(k:∀b u,h.get? b=some u->h'.get? b=some u):HOk P w H h':=fun a o e=>
 (x a o e).stay (fun b u _ q=>k b u q) (fun _ q=>q) fun _ _ q=>q
theorem HOk.laid(x:HOk P w H h)(k:∀b u,h.get? b=some u->h'.get? b=some u)(hp:h.objs.size<=a)(new:eL P w (upd H a o) h' a o):HOk P w (upd H a o) h':=fun b u e=>by
 have hn:=x.fresh hp;by_cases hb:b=a
 .subst hb;rw[aY]at e;cases e;exact new
 .rw[aV hb]at e;exact(x b u e).stay (fun c v _ q=>k c v q) (fun c q=>by rw[aV (aU q hn)];exact q) fun c xs q=>by rw[aV (aU q hn)];exact q
end
noncomputable def Rd(H:Hp)(a:Addr)(u:HO):Prop:=H a=some u\/∃o,H a=some (.frz o u)
theorem Rd.ok{P:Program}{w:World}{h:Heap}{a:Addr}{u:HO}(r:Rd H a u)(x:HOk P w H h):eL P w H h a u:=by
 rcases r with r|⟨o,r⟩
 .exact x a u r
 .obtain⟨_,q⟩:=x a _ r;exact q
noncomputable def Mut:Option HO->Prop
 |some (.lst _)=>True
 |some (.dK _)=>True
 |some (.dT _)=>True
 |some (.set _ _)=>True
 |some (.ins _ _ _)=>True
 |some (.ext _)=>True
 |_=>False
section
variable{P:Program}{w:World}{H:Hp}{h h':Heap}{x e:Addr}{o':HO}
theorem HOk.write(ok:HOk P w H h)(mu:Mut (H x))(he:e=x\/H e=some (.own x))(k:∀b u,b≠e->h.get? b=some u->h'.get? b=some u)(heo:∃u,h'.get? e=some u)
 (new:eL P w (upd H x o') h' x o'):HOk P w (upd H x o') h':=fun b u q=>by
 have nown:∀c y,H c=some (.own y)->c≠x:=fun c y r z=>by subst z;rw[r]at mu;exact mu
 have ntup:∀c xs,H c=some (.tup xs)->c≠x:=fun c xs r z=>by subst z;rw[r]at mu;exact mu
 by_cases hb:b=x
 .subst hb;rw[aY]at q;cases q;exact new
 .rw[aV hb]at q;by_cases hbe:b=e
  .have q':H b=some (.own x):=by
    rcases he with z|z
    .exact absurd (hbe.trans z) hb
    .rw[hbe];exact z
   rw[q]at q';cases q';obtain⟨v,hv⟩:=heo;exact⟨v,by rw[hbe];exact hv⟩
  .refine(ok b u q).stay (fun c v hc r=>k c v ?_ r) (fun c r=>by rw[aV (nown c b r)];exact r) fun c xs r=>by rw[aV (ntup c xs r)];exact r
   rcases hc with rfl|hc
   .exact hbe
   .rintro rfl;rcases he with z|z
    .exact nown c b hc z
    .rw[hc]at z;cases z;exact hb rfl
end
structure Un(fs ex:List Addr)(H H':Hp)(h h':Heap):Prop where
 keep:∀b o,h.get? b=some o->H b=none->b∉fs->b∉ex->h'.get? b=some o
 slot:∀b o,h.get? b=some o->H b=none->b∈fs->b∉ex->∃sl,h'.get? b=some { o with slots:=sl }
 free:∀b o,h.get? b=some o->H b=none->b∉ex->H' b=none
 there:∀b o,h.get? b=some o->b∉ex->∃o',h'.get? b=some o'
 tups:∀b xs,H b=some (.tup xs)->H' b=some (.tup xs)
 frzs:∀b o u,H b=some (.frz o u)->H' b=some (.frz o u)
 tbls:∀b ps,H b=some (.tbl ps)->∃more,H' b=some (.tbl (ps++more))
section
variable{fs fs' ex ex':List Addr}{H H1 H2:Hp}{h h1 h2 h':Heap}{a x e:Addr}{o:HO}
theorem Un.any(u:Un fs ex H H1 h h1){b:Addr}{ob:Obj}(q:h.get? b=some ob)(n:H b=none)(hx:b∉ex):∃sl,h1.get? b=some { ob with slots:=sl }:=by
 by_cases hb:b∈fs
 .exact u.slot b ob q n hb hx
 .exact⟨ob.slots,u.keep b ob q n hb hx⟩
theorem Un.kept(k:∀b u,h.get? b=some u->h'.get? b=some u):Un fs ex H H h h':=
 ⟨fun b ob q _ _ _=>k b ob q,fun b ob q _ _ _=>⟨ob.slots,k b ob q⟩,fun _ _ _ n _=>n,fun b ob q _=>⟨ob,k b ob q⟩,fun _ _ q=>q,fun _ _ _ q=>q,fun _ ps q=>⟨#[],by rw[q];simp⟩⟩
theorem Un.refl:Un fs ex H H h h:=Un.kept fun _ _ q=>q
theorem Un.laid(k:∀b u,h.get? b=some u->h'.get? b=some u)(hp:h.objs.size<=a)(hn:H a=none):Un fs ex H (upd H a o) h h' where
 keep:=fun b u q _ _ _=>k b u q
 slot:=fun b u q _ _ _=>⟨u.slots,k b u q⟩
 free:=fun b u q n _=>by rw[aV (C7 (C3 (B9 q) hp))];exact n
 there:=fun b u q _=>⟨u,k b u q⟩
 tups:=fun b xs q=>by rw[aV (aU q hn)];exact q
 frzs:=fun b u xs q=>by rw[aV (aU q hn)];exact q
 tbls:=fun b ps q=>⟨#[],by rw[aV (aU q hn),q];simp⟩
theorem Un.write(mu:Mut (H x))(he:e=x\/H e=some (.own x))(k:∀b u,b≠e->h.get? b=some u->h'.get? b=some u)(heo:∃u,h'.get? e=some u):Un fs ex H (upd H x o) h h':=by
 have hx:∀b,H b=none->b≠x:=fun b n z=>by subst z;rw[n]at mu;exact mu
 have hb:∀b,H b=none->b≠e:=fun b n z=>by
  subst z;rcases he with r|r
  .exact hx b n r
  .rw[n]at r;cases r
 have hm:∀b u,H b=some u->¬Mut (some u)->b≠x:=fun b u q nm z=>by subst z;rw[q]at mu;exact nm mu
 refine⟨fun b u q n _ _=>k b u (hb b n) q,fun b u q n _ _=>⟨u.slots,k b u (hb b n) q⟩,fun b u q n _=>by rw[aV (hx b n)];exact n,fun b u q _=>?_,
  fun b xs q=>by rw[aV (hm b _ q fun z=>z)];exact q,fun b u xs q=>by rw[aV (hm b _ q fun z=>z)];exact q,fun b ps q=>⟨#[],by rw[aV (hm b _ q fun z=>z),q];simp⟩⟩
 by_cases hbe:b=e
 .subst hbe;exact heo
 .exact⟨u,k b u hbe q⟩
end
noncomputable def trk(h:Heap)(H:Hp):List Addr:=(List.range h.objs.size).filter fun a=>(H a).isSome
noncomputable def EZ(h:Heap)(H:Hp):Heap:=PySem.W.hideAll h (trk h H)
theorem UG(h:Heap)(H:Hp):(EZ h H).objs.size=h.objs.size:=PySem.W.hideAll_size _ _
theorem VJ{h:Heap}{b:Addr}{o:Obj}(e:h.get? b=some o)(n:H b=none):(EZ h H).get? b=some o:=
 PySem.W.hideAll_get _ e fun hm=>by
  have q:(H b).isSome=true:=(List.mem_filter.mp hm).2;rw[n]at q;simp at q
theorem aCV{h:Heap}{b:Addr}{o:Obj}(e:(EZ h H).get? b=some o):h.get? b=some o/\H b=none:=by
 have e':h.get? b=some o:=PySem.W.of_hideAll (trk h H) e;refine⟨e',?_⟩;cases q:H b with
 |none=>rfl
 |some x=>
  have hm:b∈trk h H:=List.mem_filter.mpr ⟨List.mem_range.mpr (B9 e'),by simp[q]⟩;have z:(EZ h H).get? b=none:=PySem.W.hideAll_none (trk h H) hm;rw[z]at e;cases e
noncomputable def iV(g h:Heap)(L:Addr):List (Addr×Obj):=(List.range h.objs.size).filterMap fun a=>if a=L\/(g.get? a).isSome=true then none else(h.get? a).map fun o=>(a,o)
theorem hG{g h:Heap}{L a:Addr}{o:Obj}(h1:a≠L)(h2:g.get? a=none)(h3:h.get? a=some o):(a,o)∈iV g h L:=
 List.mem_filterMap.mpr ⟨a,List.mem_range.mpr (B9 h3),by simp[h1,h2,h3]⟩
theorem AI{g h:Heap}{L:Addr}{p:Addr×Obj}(hp:p∈iV g h L):p.1≠L/\g.get? p.1=none/\h.get? p.1=some p.2:=by
 obtain⟨b,_,e⟩:=List.mem_filterMap.mp hp;split at e
 .cases e
 .rename_i hn;cases q:h.get? b with
  |none=>rw[q]at e;simp at e
  |some u=>
   rw[q]at e;simp only[Option.map_some,Option.some.injEq]at e;subst e;refine⟨fun z=>hn (.inl z),?_,q⟩;show g.get? b=none;cases r:g.get? b with
   |none=>rfl
   |some v=>exact(hn (.inr (by simp[r]))).elim
noncomputable def rest(g h:Heap)(L d:Addr):List (Addr×Obj):=(iV g h L).filter fun p=>decide (p.1≠d)
theorem yW{g h:Heap}{L:Addr}:News g L h (iV g h L):=fun p hp=>let⟨a,b,c⟩:=AI hp;⟨c,a,b⟩
structure Mod(K:Fg)(mg:Str->Option Value)(base:Heap):Prop where
 kin:K.In base
 glob:base.Ns mainGlobals mg
 blt:∃mb,base.Ns builtinsNs mb/\∀x:Str,x≠"__name__"->mb x=bootBuiltins x
 nolimit:base.NoLimit
 sysm:∃o es ep,base.get? sysModules=some o/\o.data=.dict es ep
structure Cx where
 prog:Program
 w:World
 K:Fg
 mg:Str->Option Value
 base:Heap
 A:Around
 N:List Str
 s₀:Shared
 H₀:Hp
 env:Env
 outer:List Env
 stack:List Env
 ex:List Addr
 fn:Str->Bool
 calm:Bool
 pn:List (Addr×Obj)
 xe:Value->Shared->Prop
noncomputable def frs(l:List Env):List Addr:=l.filterMap (·.frame)
noncomputable abbrev Cx.fs(X:Cx):List Addr:=frs X.outer
noncomputable def Vis(sc:Scope)(x:Str):Prop:=sc.names.lookup x=some .local\/sc.names.lookup x=some .cell\/sc.names.lookup x=some .free
noncomputable def Loc(sc:Scope)(x:Str):Prop:=sc.names.lookup x=some .local\/sc.names.lookup x=some .cell
noncomputable def Look(env:Env)(h:Heap)(m:Str->Option Value)(x:Str)(u:Value):Prop:=
 (env.kindOf x=some .local/\m x=some u)\/((env.kindOf x=some .cell\/env.kindOf x=some .free)/\∃c,env.cells.lookup x=some c/\h.IsCell c (some u))
structure Cx.Ok(X:Cx):Prop where
 mod:Mod X.K X.mg X.base
 kind:X.env.scope.kind=.function
 glob:X.env.globals=mainGlobals
 blt:X.env.builtins=builtinsNs
 above:X.s₀.heap.objs.size<=X.env.locals
 inj:∀x y c,X.env.cells.lookup x=some c->X.env.cells.lookup y=some c->x=y
 has:∀x,(X.env.kindOf x=some .cell\/X.env.kindOf x=some .free)->∃c,X.env.cells.lookup x=some c
 cab:∀x c,X.fn x=true->X.env.cells.lookup x=some c->X.s₀.heap.objs.size<=c
 hd:X.calm=true->X.A.handled=none
 frames:X.A.frames=some X.stack
 stk:X.stack=X.outer\/(X.stack=X.env::X.outer/\X.env.frame=some X.env.locals)
 exf:∀b∈X.ex,b≠X.env.locals/\∀x c,X.env.cells.lookup x=some c->c≠b
 bs:∀b o,X.base.get? b=some o->X.s₀.heap.get? b=some o/\X.H₀ b=none
 bsz:X.base.objs.size<=X.s₀.heap.objs.size
 noex:∀b o,X.base.get? b=some o->b∉X.ex
 exfs:∀b∈X.ex,b∉X.fs
 funs:X.s₀.heap.FunFrames X.base X.outer
 frf:∀b∈X.fs,X.H₀ b=none
structure Inv(X:Cx)(pins:List (Addr×Obj))(σ:List (Option V))(H:Hp)(s:Shared):Prop where
 ok:X.Ok
 os:s.os=X.s₀.os
 bare:AllBare s.gens
 base:Un X.fs X.ex X.H₀ H X.s₀.heap s.heap
 loc:∃m,s.heap.Ns X.env.locals m/\∀(i:Nat)(x:Str)(v:V),X.N[i]?=some x->σ[i]?=some (some v)->Vis X.env.scope x->∃u,RelV v u/\Look X.env s.heap m x u
 cell:∀x c,X.env.cells.lookup x=some c->∃v,s.heap.IsCell c v
 free:H X.env.locals=none
 freeC:∀x c,X.env.cells.lookup x=some c->H c=none
 pin:∀p∈X.pn++pins,s.heap.get? p.1=some p.2/\H p.1=none/\p.1≠X.env.locals/\p.1∉X.fs/\∀v,p.2.data≠.cell v
 hok:HOk X.prog X.w H s.heap
 len:σ.length=X.N.length
section
variable{X:Cx}{pins:List (Addr×Obj)}{σ:List (Option V)}{H H':Hp}{s:Shared}{h':Heap}
theorem Cx.Ok.nofr(ok:X.Ok){b:Addr}{o:Obj}(e:X.base.get? b=some o):b∉X.fs:=fun hb=>by
 have:=(ok.funs.mem hb).1;rw[e]at this;cases this
theorem Inv.bs(I:Inv X pins σ H s):∀b o,X.base.get? b=some o->s.heap.get? b=some o/\H b=none:=fun b o e=>
 ⟨I.base.keep b o (I.ok.bs b o e).1 (I.ok.bs b o e).2 (I.ok.nofr e) (I.ok.noex b o e),I.base.free b o (I.ok.bs b o e).1 (I.ok.bs b o e).2 (I.ok.noex b o e)⟩
theorem Inv.bk(I:Inv X pins σ H s):∀b o,X.base.get? b=some o->s.heap.get? b=some o:=fun b o e=>(I.bs b o e).1
theorem Inv.mod(I:Inv X pins σ H s):Mod X.K X.mg X.base:=I.ok.mod
theorem Inv.kIn(I:Inv X pins σ H s):X.K.In s.heap:=I.ok.mod.kin.keeps I.bk
theorem Inv.fr(I:Inv X pins σ H s):∃m,Fr X.base X.env.locals s.heap m:=
 let⟨m,hn,_⟩:=I.loc
 ⟨m,hn,I.bk,F0 I.ok.bsz I.ok.above⟩
theorem Inv.lt(I:Inv X pins σ H s):X.env.locals<s.heap.objs.size:=let⟨_,hn,_⟩:=I.loc;hn.lt
theorem Inv.sz(I:Inv X pins σ H s):X.s₀.heap.objs.size<=s.heap.objs.size:=F0 I.ok.above (Z3 I.lt)
theorem Inv.nofs(I:Inv X pins σ H s){a:Addr}(h:s.heap.objs.size<=a):a∉X.fs:=fun hb=>by
 obtain⟨_,o,ho,_⟩:=I.ok.funs.mem hb;exact absurd (C3 (B9 ho) (F0 I.sz h)) (F8 _)
theorem Inv.cne(I:Inv X pins σ H s):∀x c,X.env.cells.lookup x=some c->c≠X.env.locals:=fun x c e z=>by
 obtain⟨v,o,ho,hd⟩:=I.cell x c e;obtain⟨m,⟨o',es,ep,ho',hd',_⟩,_⟩:=I.loc;rw[z,ho']at ho;cases ho;rw[hd']at hd;cases hd
theorem Inv.funs(I:Inv X pins σ H s):s.heap.FunFrames X.base X.outer:=by
 have all:∀(l:List Env),(∀b∈frs l,b∈X.fs)->X.s₀.heap.FunFrames X.base l->s.heap.FunFrames X.base l:=by
  intro l
  induction l with
  |nil=>intro _ _;trivial
  |cons env r ih=>
   intro hs hl;obtain⟨hk,⟨L,o,hf,hn,ho,hd⟩,hr⟩:=hl;have hL:L∈X.fs:=hs L (by unfold frs;rw[S7,hf];exact B0);obtain⟨sl,e⟩:=I.base.slot L o ho (I.ok.frf L hL) hL fun z=>I.ok.exfs L z hL;exact⟨hk,⟨L,_,hf,hn,e,hd⟩,ih (fun b hb=>hs b (by unfold frs;rw[S7,hf];exact A9 _ hb)) hr⟩
 exact all X.outer (fun _ hb=>hb) I.ok.funs
theorem Inv.stack(I:Inv X pins σ H s):s.heap.FunFrames X.base X.stack:=by
 rcases I.ok.stk with e|⟨e,hf⟩
 .rw[e];exact I.funs
 .rw[e];obtain⟨m,hn,_⟩:=I.loc;refine .cons (by rw[I.ok.kind];decide) hf hn ?_ I.funs;exact Heap.get?_none_of_le (F0 I.ok.bsz I.ok.above)
theorem Inv.stkSub(I:Inv X pins σ H s):∀b∈frs X.stack,b∈X.env.locals::X.fs:=fun b hb=>by
 rcases I.ok.stk with e|⟨e,hf⟩
 .rw[e]at hb;exact A9 _ hb
 .rw[e]at hb;unfold frs at hb;rw[S7,hf]at hb;exact hb
theorem Inv.stkFree(I:Inv X pins σ H s):∀b∈frs X.stack,H b=none:=fun b hb=>by
 rcases List.mem_cons.mp (I.stkSub b hb)with e|hb
 .rw[e];exact I.free
 .obtain⟨_,o,ho,_⟩:=I.ok.funs.mem hb;exact I.base.free b o ho (I.ok.frf b hb) fun z=>I.ok.exfs b z hb
theorem Inv.step{g':Array GenState}{t':Nat}{d':Drawn}{ch:List Addr}(I:Inv X pins σ H s)
 (hch:∀b∈ch,(b∈X.ex\/X.s₀.heap.objs.size<=b)/\b≠X.env.locals/\(∀x c,X.env.cells.lookup x=some c->c≠b)/\∀p∈X.pn++pins,p.1≠b)
 (keep:∀b o,b≠X.env.locals->b∉X.fs->b∉ch->s.heap.get? b=some o->H b=none->h'.get? b=some o)
 (slot:∀b o,b≠X.env.locals->b∈X.fs->b∉ch->s.heap.get? b=some o->H b=none->∃sl,h'.get? b=some { o with slots:=sl }) (free:∀b o,b∉ch->s.heap.get? b=some o->H b=none->H' b=none)
 (there:∀b o,b∉ch->s.heap.get? b=some o->∃o',h'.get? b=some o')
 (tups:∀b xs,H b=some (.tup xs)->H' b=some (.tup xs)) (frzs:∀b o u,H b=some (.frz o u)->H' b=some (.frz o u)) (tbls:∀b ps,H b=some (.tbl ps)->∃more,H' b=some (.tbl (ps++more)))
 (ns:∀m,s.heap.Ns X.env.locals m->h'.Ns X.env.locals m) (hok:HOk X.prog X.w H' h') (hg:AllBare g'):
 Inv X pins σ H' { s with heap:=h',gens:=g',drawn:=d',toks:=t' }:=by
 have neL:∀b o,X.s₀.heap.get? b=some o->b≠X.env.locals:=fun b o e=>C7 (C3 (B9 e) I.ok.above)
 have neC:∀b o,X.s₀.heap.get? b=some o->b∉X.ex->b∉ch:=fun b o e hx hb=>by
  rcases (hch b hb).1 with z|z
  .exact hx z
  .exact absurd (C3 (B9 e) z) (F8 _)
 have cellK:∀x c,X.env.cells.lookup x=some c->∀v,s.heap.IsCell c v->h'.IsCell c v:=fun x c e v ⟨o,ho,hd⟩=>by
  have nch:c∉ch:=fun z=>(hch c z).2.2.1 x c e rfl;by_cases hc:c∈X.fs
  .obtain⟨sl,q⟩:=slot c o (I.cne x c e) hc nch ho (I.freeC x c e);exact⟨_,q,hd⟩
  .exact⟨o,keep c o (I.cne x c e) hc nch ho (I.freeC x c e),hd⟩
 refine⟨I.ok,I.os,hg,⟨fun b o e n hb hx=>?_,fun b o e n hb hx=>?_,fun b o e n hx=>?_,fun b o e hx=>?_,fun b xs e=>tups b xs (I.base.tups b xs e),fun b o xs e=>frzs b o xs (I.base.frzs b o xs e),fun b ps e=>?_⟩,?_,fun x c e=>?_,?_,fun x c e=>?_,fun p hp=>?_,hok,I.len⟩
 .exact keep b o (neL b o e) hb (neC b o e hx) (I.base.keep b o e n hb hx) (I.base.free b o e n hx)
 .obtain⟨sl,e1⟩:=I.base.slot b o e n hb hx;obtain⟨sl',e2⟩:=slot b _ (neL b o e) hb (neC b o e hx) e1 (I.base.free b o e n hx);exact⟨sl',e2⟩
 .obtain⟨o',e1⟩:=I.base.there b o e hx;exact free b o' (neC b o e hx) e1 (I.base.free b o e n hx)
 .obtain⟨o',e1⟩:=I.base.there b o e hx;exact there b o' (neC b o e hx) e1
 .obtain⟨m1,e1⟩:=I.base.tbls b ps e;obtain⟨m2,e2⟩:=tbls b _ e1;exact⟨m1++m2,by rw[e2,Array.append_assoc]⟩
 .obtain⟨m,hn,hl⟩:=I.loc;refine⟨m,ns m hn,fun i x v e1 e2 e3=>?_⟩;obtain⟨u,r,l⟩:=hl i x v e1 e2 e3;refine⟨u,r,?_⟩;rcases l with l|⟨k,c,e,z⟩
  .exact .inl l
  .exact .inr ⟨k,c,e,cellK x c e _ z⟩
 .obtain⟨v,z⟩:=I.cell x c e;exact⟨v,cellK x c e v z⟩
 .obtain⟨m,⟨o,_,_,ho,_⟩,_⟩:=I.loc;exact free _ o (fun z=>(hch _ z).2.1 rfl) ho I.free
 .obtain⟨v,o,ho,hd⟩:=I.cell x c e;exact free c o (fun z=>(hch c z).2.2.1 x c e rfl) ho (I.freeC x c e)
 .obtain⟨e,n,ne,nf,d⟩:=I.pin p hp;have nch:p.1∉ch:=fun z=>(hch p.1 z).2.2.2 p hp rfl;exact⟨keep p.1 p.2 ne nf nch e n,free p.1 p.2 nch e n,ne,nf,d⟩
theorem Inv.un{t':Nat}(I:Inv X pins σ H s)(u:Un X.fs [] H H' s.heap h')(hok:HOk X.prog X.w H' h'):Inv X pins σ H' { s with heap:=h',toks:=t' }:=by
 obtain⟨m,⟨o,es,ep,ho,r⟩,_⟩:=id I.loc;obtain⟨sl,hL⟩:=u.any ho I.free (by simp)
 exact I.step (g':=s.gens) (d':=s.drawn) (ch:=[]) (fun _ z=>nomatch z) (fun b o _ hb _ e n=>u.keep b o e n hb (by simp)) (fun b o _ hb _ e n=>u.slot b o e n hb (by simp)) (fun b o _ e n=>u.free b o e n (by simp)) (fun b o _ e=>u.there b o e (by simp)) u.tups u.frzs u.tbls (fun m' hm=>by
  obtain⟨o',es',ep',ho',r'⟩:=hm;rw[ho]at ho';cases ho';exact⟨_,es',ep',hL,r'⟩) hok I.bare
theorem Inv.call{g':Array GenState}{t':Nat}{d':Drawn}{ch:List Addr}(I:Inv X pins σ H s)(u:Un (frs X.stack) ch H H' s.heap h')(hok:HOk X.prog X.w H' h')(hg:AllBare g')
 (hch:∀b∈ch,(b∈X.ex\/X.s₀.heap.objs.size<=b)/\b≠X.env.locals/\(∀x c,X.env.cells.lookup x=some c->c≠b)/\∀p∈X.pn++pins,p.1≠b):
 Inv X pins σ H' { s with heap:=h',gens:=g',drawn:=d',toks:=t' }:=by
 obtain⟨m,⟨o,es,ep,ho,r⟩,_⟩:=id I.loc;obtain⟨sl,hL⟩:=u.any ho I.free fun z=>(hch _ z).2.1 rfl
 exact I.step (ch:=ch) hch (fun b o hL hb hc e n=>u.keep b o e n (fun z=>(List.mem_cons.mp (I.stkSub b z)).elim hL hb) hc) (fun b o _ _ hc e n=>u.any e n hc) (fun b o hc e n=>u.free b o e n hc) (fun b o hc e=>u.there b o e hc) u.tups u.frzs u.tbls (fun m' hm=>by
  obtain⟨o',es',ep',ho',r'⟩:=hm;rw[ho]at ho';cases ho';exact⟨_,es',ep',hL,r'⟩) hok hg
theorem Inv.turned{t':Nat}{it:Addr}(I:Inv X pins σ H s)(k:∀b o,b≠it->s.heap.get? b=some o->h'.get? b=some o)(hn:H it=none)(hL:it≠X.env.locals)
 (h1:it∈X.ex\/X.s₀.heap.objs.size<=it) (h2:∀x c,X.env.cells.lookup x=some c->c≠it) (h3:∀p∈X.pn++pins,p.1≠it):Inv X pins σ H { s with heap:=h',toks:=t' }:=by
 have nit:∀b u,H b=some u->b≠it:=fun b u e z=>by rw[z,hn]at e;cases e
 refine I.step (g':=s.gens) (d':=s.drawn) (ch:=[it]) (fun b hb=>?_) (fun b o _ _ hc e _=>k b o (fun z=>hc (by simp[z])) e) (fun b o _ _ hc e _=>⟨o.slots,k b o (fun z=>hc (by simp[z])) e⟩) (fun _ _ _ _ n=>n)
  (fun b o hc e=>⟨o,k b o (fun z=>hc (by simp[z])) e⟩) (fun _ _ e=>e) (fun _ _ _ e=>e) (fun b ps e=>⟨#[],by rw[e];simp⟩) (fun m hm=>?_) (fun b u e=>?_) I.bare
 .have e:b=it:=by simpa using hb
  subst e;exact⟨h1,hL,h2,h3⟩
 .obtain⟨o,es,ep,ho,r⟩:=hm;exact⟨o,es,ep,k _ o (O3 hL) ho,r⟩
 .refine(I.hok b u e).stay (fun c v hc q=>k c v ?_ q) (fun _ q=>q) fun _ _ q=>q;rcases hc with z|z
  .rw[z];exact nit b u e
  .exact nit c _ z
theorem Inv.tok(I:Inv X pins σ H s)(t:Nat):Inv X pins σ H { s with toks:=t }:=I.un (h':=s.heap) (t':=t) Un.refl I.hok
theorem Inv.kept{t':Nat}(I:Inv X pins σ H s)(k:∀b u,s.heap.get? b=some u->h'.get? b=some u):Inv X pins σ H { s with heap:=h',toks:=t' }:=I.un (Un.kept k) (I.hok.kept k)
theorem Inv.laid{a:Addr}{o:HO}{t':Nat}(I:Inv X pins σ H s)(k:∀b u,s.heap.get? b=some u->h'.get? b=some u)(hp:s.heap.objs.size<=a)(new:eL X.prog X.w (upd H a o) h' a o):
 Inv X pins σ (upd H a o) { s with heap:=h',toks:=t' }:=I.un (Un.laid k hp (I.hok.fresh hp)) (I.hok.laid k hp new)
theorem Inv.write{x e:Addr}{o:HO}{t':Nat}(I:Inv X pins σ H s)(mu:Mut (H x))(he:e=x\/H e=some (.own x))(k:∀b u,b≠e->s.heap.get? b=some u->h'.get? b=some u)(heo:∃u,h'.get? e=some u)
 (new:eL X.prog X.w (upd H x o) h' x o):Inv X pins σ (upd H x o) { s with heap:=h',toks:=t' }:=I.un (Un.write mu he k heo) (I.hok.write mu he k heo new)
theorem Inv.pins_of{pins':List (Addr×Obj)}(I:Inv X pins σ H s)(h:∀p∈pins',s.heap.get? p.1=some p.2/\H p.1=none/\p.1≠X.env.locals/\p.1∉X.fs/\∀v,p.2.data≠.cell v):Inv X pins' σ H s:=
 ⟨I.ok,I.os,I.bare,I.base,I.loc,I.cell,I.free,I.freeC,fun p hp=>(List.mem_append.mp hp).elim (fun z=>I.pin p (C9 _ z)) (h p),I.hok,I.len⟩
theorem zI{N:List Str}(hN:N.Nodup){i j:Nat}{x:Str}(a:N[i]?=some x)(b:N[j]?=some x):i=j:=by
 obtain⟨h1,e1⟩:=List.getElem?_eq_some_iff.mp a;obtain⟨h2,e2⟩:=List.getElem?_eq_some_iff.mp b;exact(Y2 hN).mp (e1.trans e2.symm)
theorem vT{M:Model}{A:Around}{E:Value->Shared->Prop}{i:Nat}{x:Str}{v:V}{u:Value}{Q:Unit->Shared->Prop}(I:Inv X pins σ H s)(hN:X.N.Nodup)(hi:X.N[i]?=some x)(hx:Loc X.env.scope x)(r:RelV v u)
 (h:∀s',Inv X pins (σ.set i (some v)) H s'->(∃a,Heap.SameBut a s.heap s'.heap/\(a=X.env.locals\/X.env.cells.lookup x=some a))->Q () s') (hf:X.fn x=true\/X.env.scope.names.lookup x=some .local:=by first|exact .inl rfl|exact .inr rfl|assumption):wpAny M A (storeName X.env x u) Q E s:=by
 obtain⟨m,hn,hl⟩:=id I.loc;have hcls:(X.env.scope.kind==.class || (X.env.scope.kind==.module&&X.env.locals != X.env.globals))=false:=by rw[I.ok.kind];rfl
 have hiσ:i<σ.length:=by rw[I.len];exact(List.getElem?_eq_some_iff.mp hi).1
 have cne:=I.cne
 have tracked:∀{a:Addr}{h':Heap},(∃o,s.heap.get? a=some o/\H a=none)->Heap.SameBut a s.heap h'->HOk X.prog X.w H h':=fun{a h'} ha hs b ob e=>by
  obtain⟨_,_,hfree⟩:=ha;refine(I.hok b ob e).stay (fun c w' hc q=>(hs.2 c ?_).trans q) (fun _ q=>q) fun _ _ q=>q;rintro rfl;rcases hc with rfl|hc
  .rw[hfree]at e;cases e
  .rw[hfree]at hc;cases hc
 rcases hx with hk|hk
 .refine wpAny_storeName_local hk hn (fun h' hn' hs=>?_) hcls;obtain⟨oL,_,_,hoL,_⟩:=id hn;refine h _ ⟨I.ok,I.os,I.bare,⟨fun b o e n hb hx=>?_,fun b o e n hb hx=>?_,I.base.free,fun b o e hx=>?_,I.base.tups,I.base.frzs,I.base.tbls⟩,⟨_,hn',fun j y v' e1 e2 e3=>?_⟩,fun y c e=>?_,I.free,I.freeC,fun p hp=>?_,tracked ⟨oL,hoL,I.free⟩ hs,by simpa using I.len⟩ ⟨_,hs,.inl rfl⟩
  .exact(hs.2 b (C7 (C3 (B9 e) I.ok.above))).trans (I.base.keep b o e n hb hx)
  .obtain⟨sl,e1⟩:=I.base.slot b o e n hb hx;exact⟨sl,(hs.2 b (C7 (C3 (B9 e) I.ok.above))).trans e1⟩
  .obtain⟨o',e1⟩:=I.base.there b o e hx;exact⟨o',(hs.2 b (C7 (C3 (B9 e) I.ok.above))).trans e1⟩
  .by_cases hj:j=i
   .subst hj;rw[hi]at e1;cases e1;rw[L8 hiσ]at e2;cases e2;exact⟨u,r,.inl ⟨hk,by simp⟩⟩
   .rw[O7 (O3 hj)]at e2;obtain⟨u',r',q⟩:=hl j y v' e1 e2 e3;refine⟨u',r',?_⟩;rcases q with⟨k,e⟩|⟨k,c,e,z⟩
    .refine .inl ⟨k,?_⟩;have:y≠x:=fun e=>hj (zI hN e1 (e▸hi));simp[this,e]
    .exact .inr ⟨k,c,e,z.sameBut hs (cne y c e)⟩
  .obtain⟨w',z⟩:=I.cell y c e;exact⟨w',z.sameBut hs (cne y c e)⟩
  .obtain⟨e,n,ne,nf,d⟩:=I.pin p hp;exact⟨(hs.2 p.1 ne).trans e,n,ne,nf,d⟩
 .have hfn:X.fn x=true:=by
   rcases hf with z|z
   .exact z
   .rw[z]at hk;cases hk
  obtain⟨c,hc⟩:=I.ok.has x (.inl hk);obtain⟨w',z⟩:=I.cell x c hc;refine wpAny_storeName_cell I.ok.kind hk hc z (fun h' hc' hs=>?_);obtain⟨oc,hoc,hocd⟩:=id z;refine h { s with heap:=h' } ⟨I.ok,I.os,I.bare,⟨fun b o e n hb hx=>?_,fun b o e n hb hx=>?_,I.base.free,fun b o e hx=>?_,I.base.tups,I.base.frzs,I.base.tbls⟩,⟨m,hn.sameBut hs (O3 (cne x c hc)),fun j y v' e1 e2 e3=>?_⟩,fun y c' e=>?_,I.free,I.freeC,fun p hp=>?_,tracked ⟨oc,hoc,I.freeC x c hc⟩ hs,by simpa using I.len⟩ ⟨c,hs,.inr hc⟩
  .exact(hs.2 b (C7 (C3 (B9 e) (I.ok.cab x c hfn hc)))).trans (I.base.keep b o e n hb hx)
  .obtain⟨sl,e1⟩:=I.base.slot b o e n hb hx;exact⟨sl,(hs.2 b (C7 (C3 (B9 e) (I.ok.cab x c hfn hc)))).trans e1⟩
  .obtain⟨o',e1⟩:=I.base.there b o e hx;exact⟨o',(hs.2 b (C7 (C3 (B9 e) (I.ok.cab x c hfn hc)))).trans e1⟩
  .by_cases hj:j=i
   .subst hj;rw[hi]at e1;cases e1;rw[L8 hiσ]at e2;cases e2;exact⟨u,r,.inr ⟨.inl hk,c,hc,hc'⟩⟩
   .rw[O7 (O3 hj)]at e2;obtain⟨u',r',q⟩:=hl j y v' e1 e2 e3;refine⟨u',r',?_⟩;rcases q with q|⟨k,c',e,z'⟩
    .exact .inl q
    .refine .inr ⟨k,c',e,z'.sameBut hs ?_⟩;rintro rfl;exact hj (zI hN e1 (I.ok.inj _ _ _ e hc▸hi))
  .by_cases hcc:c'=c
   .subst hcc;exact⟨_,hc'⟩
   .obtain⟨w2,z2⟩:=I.cell y c' e;exact⟨w2,z2.sameBut hs hcc⟩
  .obtain⟨e,n,ne,nf,d⟩:=I.pin p hp;refine⟨(hs.2 p.1 ?_).trans e,n,ne,nf,d⟩;intro q;rw[q,hoc]at e;have q':oc=p.2:=D5 e;exact d w' (by rw[<- q'];exact hocd)
theorem qT{M:Model}{A:Around}{E:Value->Shared->Prop}{i:Nat}{x:Str}{v:V}{u:Value}{Q:Unit->Shared->Prop}(I:Inv X pins σ H s)(hN:X.N.Nodup)(hi:X.N[i]?=some x)(hx:Loc X.env.scope x)(r:RelV v u)
 (h:∀s',Inv X pins (σ.set i (some v)) H s'->Q () s') (hf:X.fn x=true\/X.env.scope.names.lookup x=some .local:=by first|exact .inl rfl|exact .inr rfl|assumption):wpAny M A (storeName X.env x u) Q E s:=
 vT I hN hi hx r (fun s' I' _=>h s' I') hf
theorem Inv.call'{s':Shared}{ch:List Addr}(I:Inv X pins σ H s)(ho:s'.os=s.os)(u:Un (frs X.stack) ch H H' s.heap s'.heap)(hok:HOk X.prog X.w H' s'.heap)(hg:AllBare s'.gens)
 (hch:∀b∈ch,(b∈X.ex\/X.s₀.heap.objs.size<=b)/\b≠X.env.locals/\(∀x c,X.env.cells.lookup x=some c->c≠b)/\∀p∈X.pn++pins,p.1≠b):Inv X pins σ H' s':=by
 obtain⟨h',g',d',t',o'⟩:=s';have e:o'=s.os:=ho;subst e;exact I.call (g':=g') (t':=t') (d':=d') u hok hg hch
end
noncomputable abbrev XK:=Value->Option Addr->Hp->Prop
noncomputable abbrev St:=List (Option V)
noncomputable abbrev VK:=V->Hp->Prop
noncomputable abbrev TE:=St->Hp->VK->Prop
noncomputable abbrev TT:=St->Hp->(Bool->Hp->Prop)->Prop
noncomputable abbrev TA:=St->Hp->(List V->Hp->Prop)->Prop
structure Ends where
 nx:St->Hp->Prop
 rt:VK
 bk:St->Hp->Prop:=fun _ _=>False
 ct:St->Hp->Prop:=fun _ _=>False
noncomputable abbrev TS:=Ends->St->Hp->Prop
noncomputable def EP(X:Cx)(pins:List (Addr×Obj))(σ:St)(Q:VK)(u:Value)(s':Shared):Prop:=∃v H',Inv X pins σ H' s'/\RelV v u/\Q v H'
noncomputable def TP(X:Cx)(pins:List (Addr×Obj))(σ:St)(Q:Bool->Hp->Prop)(b:Bool)(s':Shared):Prop:=∃H',Inv X pins σ H' s'/\Q b H'
noncomputable def AP(X:Cx)(pins:List (Addr×Obj))(σ:St)(Q:List V->Hp->Prop)(us:List Value)(s':Shared):Prop:=∃vs H',Inv X pins σ H' s'/\bE vs us/\Q vs H'
noncomputable def SP(X:Cx)(pins:List (Addr×Obj))(D:Ends)(f:Flow)(s':Shared):Prop:=
 match f with
 |.next=>∃σ' H',Inv X pins σ' H' s'/\D.nx σ' H'
 |.brk=>∃σ' H',Inv X pins σ' H' s'/\D.bk σ' H'
 |.cont=>∃σ' H',Inv X pins σ' H' s'/\D.ct σ' H'
 |.ret u=>∃v σ' H',Inv X pins σ' H' s'/\RelV v u/\D.rt v H'
noncomputable def PE(X:Cx)(e:Expr)(t:TE):Prop:=
 ∀(pins:List (Addr×Obj))(s:Shared)(σ:St)(H:Hp)(Q:VK),Inv X pins σ H s->t σ H Q->wpAny (model X.prog X.w) X.A (eval e X.env) (EP X pins σ Q) X.xe s
noncomputable def PT(X:Cx)(e:Expr)(t:TT):Prop:=
 ∀(pins:List (Addr×Obj))(s:Shared)(σ:St)(H:Hp)(Q:Bool->Hp->Prop),Inv X pins σ H s->t σ H Q->wpAny (model X.prog X.w) X.A (isTrue e X.env (eval e X.env)) (TP X pins σ Q) X.xe s
noncomputable def PW(X:Cx)(e:Expr)(t:TT):Prop:=
 ∀(whole:Sem Value)(pins:List (Addr×Obj))(s:Shared)(σ:St)(H:Hp)(Q:Bool->Hp->Prop),Inv X pins σ H s->t σ H Q->wpAny (model X.prog X.w) X.A (isTrue e X.env whole) (TP X pins σ Q) X.xe s
theorem PW.pt{X:Cx}{e:Expr}{t:TT}(h:PW X e t):PT X e t:=h _
noncomputable def PA(X:Cx)(es:List Expr)(t:TA):Prop:=
 ∀(pos:Pos)(pins:List (Addr×Obj))(s:Shared)(σ:St)(H:Hp)(Q:List V->Hp->Prop),Inv X pins σ H s->t σ H Q->wpAny (model X.prog X.w) X.A (spliced (backTo pos (starEach es X.env))) (AP X pins σ Q) X.xe s
noncomputable def PS(X:Cx)(st:Stmt)(t:TS):Prop:=
 ∀(pins:List (Addr×Obj))(s:Shared)(σ:St)(H:Hp)(D:Ends),Inv X pins σ H s->t D σ H->wpAny (model X.prog X.w) X.A (exec st X.env) (SP X pins D) X.xe s
noncomputable def PSs(X:Cx)(st:List Stmt)(t:TS):Prop:=
 ∀(pins:List (Addr×Obj))(s:Shared)(σ:St)(H:Hp)(D:Ends),Inv X pins σ H s->t D σ H->wpAny (model X.prog X.w) X.A (execs st X.env) (SP X pins D) X.xe s
theorem thn{α:Type}{t:Sem α}{Q Q':α->Shared->Prop}{M:Model}{E:Value->Shared->Prop}{s:Shared}(h:wpAny M A t Q E s)(hQ:∀a s,Q a s->Q' a s):wpAny M A t Q' E s:=E1 h hQ fun _ _ x=>x
section
variable{X:Cx}
theorem bin{a b:Expr}{ta tb:TE}(ha:PE X a ta)(hb:PE X b tb){pins:List (Addr×Obj)}{R:V->V->Hp->Prop}(I:Inv X pins σ H s)(h:ta σ H fun x H1=>tb σ H1 fun y H2=>R x y H2)
 {α:Type} {Q:α->Shared->Prop} {f:Value->Value->Sem α}
 (hf:∀v u s2 x y H2,Inv X pins σ H2 s2->RelV x v->RelV y u->R x y H2->wpAny (model X.prog X.w) X.A (f v u) Q X.xe s2):
 wpAny (model X.prog X.w) X.A (eval a X.env) (fun v s₁=>wpAny (model X.prog X.w) X.A (eval b X.env) (fun u s₂=>wpAny (model X.prog X.w) X.A (f v u) Q X.xe s₂) X.xe s₁) X.xe s:=by
 refine thn (ha pins s σ H _ I h) fun v s1 ⟨x,H1,I1,r1,q1⟩=>?_;refine thn (hb pins s1 σ H1 _ I1 q1) fun u s2 ⟨y,H2,I2,r2,q2⟩=>?_;exact hf v u s2 x y H2 I2 r1 r2 q2
noncomputable def aIC(i:Nat):TE:=fun σ H Q=>∃v,σ[i]?=some (some v)/\Q v H
noncomputable def tC(v:V):TE:=fun _ H Q=>Q v H
theorem aFc{i:Nat}{x:Str}(hN:X.N[i]?=some x)(hv:Vis X.env.scope x)(hd:(x==("__debug__":Str))=false:=by decide)(hcd:(x==("__classdict__":Str))=false:=by decide):PE X (.Name x pos) (aIC i):=by
 intro pins s σ H Q I h;obtain⟨v,e,h⟩:=h;obtain⟨m,hn,hl⟩:=I.loc;obtain⟨u,r,l⟩:=hl i x v hN e hv;have fin:EP X pins σ Q u s:=⟨v,H,I,r,h⟩;rcases l with⟨hk,hm⟩|⟨hk,c,hc,hcell⟩
 .exact wpAny_Name (wpAny_loadName_local I.ok.kind hk hn hm fin) hd
 .rcases hk with hk|hk
  .exact wpAny_Name (wpAny_loadName_cell I.ok.kind hk hc hcell fin) hd
  .exact wpAny_Name (wpAny_loadName_free I.ok.kind hk hc hcell fin hcd) hd
theorem aEs{i j pos}:PE X (.Constant (.int i) j pos) (tC (.int i)):=fun _ _ _ H _ I h=>wpAny_Constant_int ⟨.int i,H,I.tok _,⟨_,rfl⟩,h⟩
theorem aJd{b j pos}:PE X (.Constant (.bool b) j pos) (tC (.bl b)):=fun _ _ _ H _ I h=>Constant_bool ⟨.bl b,H,I,rfl,h⟩
theorem aFN{j pos}:PE X (.Constant .none j pos) (tC .non):=fun _ _ _ H _ I h=>Constant_none ⟨.non,H,I,rfl,h⟩
theorem aFk{x j pos}:PE X (.Constant (.str x) j pos) (tC (.str x)):=fun _ _ _ H _ I h=>Calls.Constant_str ⟨.str x,H,I.tok _,⟨_,rfl⟩,h⟩
noncomputable def Gl(X:Cx)(x:Str):Prop:=X.env.kindOf x=some .globalImplicit
theorem uE{E:Value->Shared->Prop}{pins:List (Addr×Obj)}{x:Str}{u:Value}{pos:Pos}{Q:Value->Shared->Prop}(I:Inv X pins σ H s)(hg:Gl X x)(hm:X.mg x=some u)(h:Q u s)
 (hd:(x==("__debug__":Str))=false:=by decide):wpAny (model X.prog X.w) X.A (eval (.Name x pos) X.env) Q E s:=
 Calls.Name_function_global I.ok.kind hg (Calls.loadGlobal_global (by rw[I.ok.glob];exact I.mod.glob.keeps I.bk) hm h) hd
theorem mV{E:Value->Shared->Prop}{pins:List (Addr×Obj)}{x:Str}{u:Value}{pos:Pos}{Q:Value->Shared->Prop}(I:Inv X pins σ H s)(hg:Gl X x)(hm:X.mg x=none)(hv:bootBuiltins x=some u)(h:Q u s)
 (hn:x≠"__name__":=by decide) (hd:(x==("__debug__":Str))=false:=by decide):wpAny (model X.prog X.w) X.A (eval (.Name x pos) X.env) Q E s:=by
 obtain⟨mb,h1,h2⟩:=I.mod.blt;exact Calls.Name_function_global I.ok.kind hg (Calls.loadGlobal_builtin (by rw[I.ok.glob];exact I.mod.glob.keeps I.bk) hm (by rw[I.ok.blt];exact h1.keeps I.bk) ((h2 x hn).trans hv) h) hd
theorem OQ{x:Str}{v:V}{u:Value}(hg:Gl X x)(hm:X.mg x=some u)(r:RelV v u)(hd:(x==("__debug__":Str))=false:=by decide):PE X (.Name x pos) (tC v):=
 fun _ _ _ H _ I h=>uE I hg hm ⟨v,H,I,r,h⟩ hd
theorem yI{x:Str}{v:V}{u:Value}(hg:Gl X x)(hm:X.mg x=none)(hv:bootBuiltins x=some u)(r:RelV v u)(hn:x≠"__name__":=by decide)(hd:(x==("__debug__":Str))=false:=by decide):PE X (.Name x pos) (tC v):=
 fun _ _ _ H _ I h=>mV I hg hm hv ⟨v,H,I,r,h⟩ hn hd
variable{a b:Expr}{ta tb:TE}{pos:Pos}
noncomputable def PC(X:Cx)(op:CmpOp)(a b:Expr)(t:TE):Prop:=
 ∀(pins:List (Addr×Obj))(s:Shared)(σ:St)(H:Hp)(Q:VK),Inv X pins σ H s->t σ H Q->
  wpAny (model X.prog X.w) X.A (eval a X.env) (fun v s₁=>wpAny (model X.prog X.w) X.A (eval b X.env) (fun u s₂=>wpAny (model X.prog X.w) X.A (compareOp op v u) (EP X pins σ Q) X.xe s₂) X.xe s₁) X.xe s
theorem ZW(b:Expr){op:CmpOp}(h:op≠.In)(h2:op≠.NotIn):behindInMarks op b=false:=by
 have e1:(op==CmpOp.In)=false:=by cases op<;>first|rfl|exact absurd rfl h
 have e2:(op==CmpOp.NotIn)=false:=by cases op<;>first|rfl|exact absurd rfl h2
 cases b<;>simp[behindInMarks,e1,e2]
noncomputable def tB(t:TE):TT:=fun σ H Q=>t σ H fun x H1=>∃c,x=.bl c/\Q c H1
theorem WD{op:CmpOp}{t:TE}(h:PC X op a b t)(h1:behindInMarks op b=false:=by first|exact ZW _ (by decide) (by decide)|rfl):PT X (.Compare a [op] [b] pos) (tB t):=by
 intro pins s σ H Q I hw;refine wpAny_isTrue_Compare1 (thn (h pins s σ H _ I hw) fun v s1 h1=>thn h1 fun u s2 h2=>thn h2 fun c s3 ⟨x,H1,I1,r1,q1⟩=>?_) h1;obtain⟨d,rfl,q⟩:=q1;cases r1;exact O4 ⟨H1,I1,q⟩
theorem aGp{e:Expr}{t:TE}(h:PE X e t)(he:∀whole,isTrue e X.env whole=(do let v <- whole;standAt e.pos;holding [v] (truthy v)):=by intro _;rfl):PT X e (tB t):=by
 intro pins s σ H Q I hw;refine isTrue_plain (thn (h pins s σ H _ I hw) fun v s1 ⟨x,H1,I1,r1,q1⟩=>?_) (he _);obtain⟨d,rfl,q⟩:=q1;cases r1;exact O4 ⟨H1,I1,q⟩
variable{tA tB':TT}{rest:List Expr}
noncomputable def aIV(t u:TT):TT:=fun σ H Q=>t σ H fun c H1=>if c=true then u σ H1 Q else Q false H1
noncomputable def tOr(t u:TT):TT:=fun σ H Q=>t σ H fun c H1=>if c=true then Q true H1 else u σ H1 Q
noncomputable def aIE(t:TT):TT:=fun σ H Q=>t σ H fun c H1=>Q (!c) H1
theorem aCl(ha:PT X a tA):PW X (.BoolOp .And [a] pos) tA:=by
 intro wh pins s σ H Q I h;refine isTrue_and (thn (ha pins s σ H Q I h) fun c s1 e=>?_);cases c with
 |true=>exact isTrue_and_nil e
 |false=>exact e
theorem aGC(ha:PT X a tA):PW X (.BoolOp .Or [a] pos) tA:=by
 intro wh pins s σ H Q I h;refine isTrue_or (thn (ha pins s σ H Q I h) fun c s1 e=>?_);cases c with
 |false=>exact isTrue_or_nil e
 |true=>exact e
theorem aGX(ha:PT X a tA)(hb:PW X (.BoolOp .And (b::rest) pos) tB'):PW X (.BoolOp .And (a::b::rest) pos) (aIV tA tB'):=by
 intro wh pins s σ H Q I h;refine isTrue_and (thn (ha pins s σ H _ I h) fun c s1 ⟨H1,I1,q1⟩=>?_);cases c with
 |true=>exact hb wh pins s1 σ H1 Q I1 q1
 |false=>exact⟨H1,I1,q1⟩
theorem aHm(ha:PT X a tA)(hb:PW X (.BoolOp .Or (b::rest) pos) tB'):PW X (.BoolOp .Or (a::b::rest) pos) (tOr tA tB'):=by
 intro wh pins s σ H Q I h;refine isTrue_or (thn (ha pins s σ H _ I h) fun c s1 ⟨H1,I1,q1⟩=>?_);cases c with
 |true=>exact⟨H1,I1,q1⟩
 |false=>exact hb wh pins s1 σ H1 Q I1 q1
theorem aFV(ha:PT X a tA):PT X (.UnaryOp .Not a pos) (aIE tA):=by
 intro pins s σ H Q I h;exact isTrue_not (ha pins s σ H (fun c H1=>Q (!c) H1) I h)
noncomputable def aDO(ta tb:TE):TE:=fun σ H Q=>ta σ H fun x H1=>∃c,x=.bl c/\if c=true then tb σ H1 Q else Q (.bl false) H1
noncomputable def aIk(ta tb:TE):TE:=fun σ H Q=>ta σ H fun x H1=>∃c,x=.bl c/\if c=true then Q (.bl true) H1 else tb σ H1 Q
noncomputable def aDq(ta:TE):TE:=fun σ H Q=>ta σ H fun x H1=>∃c,x=.bl c/\Q (.bl (!c)) H1
theorem aGe{op}{t:TE}(h:PE X a t):PE X (.BoolOp op [a] pos) t:=fun pins s σ H Q I hw=>BoolOp_one (h pins s σ H Q I hw)
theorem aHd(ha:PE X a ta)(hb:PE X (.BoolOp .And (b::rest) pos) tb):PE X (.BoolOp .And (a::b::rest) pos) (aDO ta tb):=by
 intro pins s σ H Q I h;refine BoolOp_and (thn (ha pins s σ H _ I h) fun v s1 ⟨x,H1,I1,r1,q1⟩=>?_);obtain⟨c,rfl,q1⟩:=q1;cases r1;refine O4 ?_;cases c with
 |true=>exact hb pins s1 σ H1 Q I1 q1
 |false=>exact⟨.bl false,H1,I1,rfl,q1⟩
theorem aIl(ha:PE X a ta)(hb:PE X (.BoolOp .Or (b::rest) pos) tb):PE X (.BoolOp .Or (a::b::rest) pos) (aIk ta tb):=by
 intro pins s σ H Q I h;refine BoolOp_or (thn (ha pins s σ H _ I h) fun v s1 ⟨x,H1,I1,r1,q1⟩=>?_);obtain⟨c,rfl,q1⟩:=q1;cases r1;refine O4 ?_;cases c with
 |false=>exact hb pins s1 σ H1 Q I1 q1
 |true=>exact⟨.bl true,H1,I1,rfl,q1⟩
theorem aFU(ha:PE X a ta):PE X (.UnaryOp .Not a pos) (aDq ta):=by
 intro pins s σ H Q I h;refine UnaryOp_ (thn (ha pins s σ H _ I h) fun v s1 ⟨x,H1,I1,r1,q1⟩=>?_);obtain⟨c,rfl,q1⟩:=q1;cases r1;exact not_of (O4 ⟨.bl (!c),H1,I1,rfl,q1⟩)
end
noncomputable def SqL(K:Fg)(H:Hp)(a:Addr)(xs:List V):Prop:=
 Rd H a (.lst xs) \/
  ∃(o:Obj)(its:Array Value)(n:Nat),K.lookup a=some o/\o.cls=.type "list"/\o.dict=none/\o.data=.seq its n/\its.size<=sizeLine/\bE xs its.toList
noncomputable def SqT(K:Fg)(H:Hp)(a:Addr)(xs:List V):Prop:=
 Rd H a (.tup xs) \/
  ∃(o:Obj)(its:Array Value)(n:Nat),K.lookup a=some o/\o.cls=.type "tuple"/\o.data=.seq its n/\its.size<=sizeLine/\bE xs its.toList
noncomputable def aJs:Value->Option V
 |.none=>some .non
 |.bool b=>some (.bl b)
 |.int i _=>some (.int i)
 |.str x _=>some (.str x)
 |.bytes b _=>some (.byt b)
 |.float b _=>some (.flt b)
 |.ref a=>some (.ref a)
 |.type n=>some (.ty n)
 |_=>none
theorem RelV.abs{x:V}{u:Value}(r:RelV x u):aJs u=some x:=by
 cases x with
 |non=>cases r;rfl
 |bl _=>cases r;rfl
 |int _=>obtain⟨t,rfl⟩:=r;rfl
 |str _=>obtain⟨t,rfl⟩:=r;rfl
 |byt _=>obtain⟨t,rfl⟩:=r;rfl
 |flt _=>obtain⟨t,rfl⟩:=r;rfl
 |ref _=>cases r;rfl
 |ty _=>cases r;rfl
theorem RelV.inj{x y:V}{u:Value}(r:RelV x u)(q:RelV y u):x=y:=D5 (r.abs.symm.trans q.abs)
theorem bE.inj:∀{xs ys:List V}{us:List Value},bE xs us->bE ys us->xs=ys
 |_,_,_,.nil,.nil=>rfl
 |_,_,_,.cons r t,.cons r' t'=>by rw[r.inj r',bE.inj t t']
section
variable{X:Cx}{pins:List (Addr×Obj)}{σ:St}{H:Hp}{s:Shared}{a:Addr}{xs ys:List V}
theorem SqL.of(h:H a=some (.lst xs)):SqL K H a xs:=.inl (.inl h)
theorem SqT.of(h:H a=some (.tup xs)):SqT K H a xs:=.inl (.inl h)
theorem Inv.list(I:Inv X pins σ H s)(h:SqL X.K H a xs):∃its:List Value,bE xs its/\PlainL s.heap a its.toArray/\xs.length<=sizeLine:=by
 rcases h with h|⟨o,its,n,hk,hc,hd,hs,hz,r⟩
 .obtain⟨z,its,n,r,e⟩:=h.ok I.hok;exact⟨its,r,⟨_,n,e,rfl,rfl,rfl⟩,z⟩
 .refine⟨its.toList,r,⟨o,n,I.kIn a o hk,hc,hd,by simpa using hs⟩,?_⟩;have e:=r.length;simp only[Array.length_toList]at e;omega
theorem Inv.tuple(I:Inv X pins σ H s)(h:SqT X.K H a xs):∃its:List Value,bE xs its/\IsTup s.heap a its.toArray/\xs.length<=sizeLine:=by
 rcases h with h|⟨o,its,n,hk,hc,hs,hz,r⟩
 .obtain⟨z,its,r,p⟩:=h.ok I.hok;exact⟨its,r,p,z⟩
 .refine⟨its.toList,r,⟨o,I.kIn a o hk,hc,n,by simpa using hs⟩,?_⟩;have e:=r.length;simp only[Array.length_toList]at e;omega
theorem Inv.list_inj(I:Inv X pins σ H s)(h:SqL X.K H a xs)(h':SqL X.K H a ys):xs=ys:=by
 obtain⟨its,r,⟨o,n,e,_,_,d⟩,_⟩:=I.list h;obtain⟨its',r',⟨o',n',e',_,_,d'⟩,_⟩:=I.list h';rw[e]at e';cases e';rw[d]at d';injection d' with d1 _
 have:its=its':=by simpa using F6 Array.toList d1
 subst this;exact r.inj r'
theorem Inv.tuple_inj(I:Inv X pins σ H s)(h:SqT X.K H a xs)(h':SqT X.K H a ys):xs=ys:=by
 obtain⟨its,r,⟨o,e,_,n,d⟩,_⟩:=I.tuple h;obtain⟨its',r',⟨o',e',_,n',d'⟩,_⟩:=I.tuple h';rw[e]at e';cases e';rw[d]at d';injection d' with d1 _
 have:its=its':=by simpa using F6 Array.toList d1
 subst this;exact r.inj r'
end
noncomputable abbrev Cx.wish(X:Cx)(E:Value->Shared->Prop):Cx:={ X with xe:=E }
noncomputable abbrev Cx.nox(X:Cx):Cx:=X.wish fun _ _=>False
theorem Cx.Ok.wish{X:Cx}(ok:X.Ok)(E:Value->Shared->Prop):(X.wish E).Ok:=
 ⟨ok.mod,ok.kind,ok.glob,ok.blt,ok.above,ok.inj,ok.has,ok.cab,ok.hd,ok.frames,ok.stk,ok.exf,ok.bs,ok.bsz,ok.noex,ok.exfs,ok.funs,ok.frf⟩
theorem Cx.Ok.unwish{X:Cx}{E:Value->Shared->Prop}(ok:(X.wish E).Ok):X.Ok:=
 ⟨ok.mod,ok.kind,ok.glob,ok.blt,ok.above,ok.inj,ok.has,ok.cab,ok.hd,ok.frames,ok.stk,ok.exf,ok.bs,ok.bsz,ok.noex,ok.exfs,ok.funs,ok.frf⟩
section
variable{X:Cx}{pins:List (Addr×Obj)}{σ:St}{H:Hp}{s:Shared}{E:Value->Shared->Prop}
theorem Inv.wish(I:Inv X pins σ H s)(E:Value->Shared->Prop):Inv (X.wish E) pins σ H s:=⟨I.ok.wish E,I.os,I.bare,I.base,I.loc,I.cell,I.free,I.freeC,I.pin,I.hok,I.len⟩
theorem Inv.unwish(I:Inv (X.wish E) pins σ H s):Inv X pins σ H s:=⟨I.ok.unwish,I.os,I.bare,I.base,I.loc,I.cell,I.free,I.freeC,I.pin,I.hok,I.len⟩
theorem SP.unwish{D:Ends}{f:Flow}{s':Shared}(h:SP (X.wish E) pins D f s'):SP X pins D f s':=by
 cases f with
 |next=>obtain⟨σ',H',I,q⟩:=h;exact⟨σ',H',I.unwish,q⟩
 |brk=>obtain⟨σ',H',I,q⟩:=h;exact⟨σ',H',I.unwish,q⟩
 |cont=>obtain⟨σ',H',I,q⟩:=h;exact⟨σ',H',I.unwish,q⟩
 |ret u=>obtain⟨v,σ',H',I,r,q⟩:=h;exact⟨v,σ',H',I.unwish,r,q⟩
theorem PSs.nox{st:List Stmt}{t:TS}(h:PSs X.nox st t):PSs X st t:=fun pins s σ H D I hw=>
 E1 (h pins s σ H D (I.wish _) hw) (fun _ _ q=>q.unwish) fun _ _ z=>False.elim z
end
section
variable{X:Cx}{st:Stmt}{rest:List Stmt}{t u:TS}{e:Expr}{te:TE}{pos:Pos}
noncomputable def aDr:TS:=fun D σ H=>D.nx σ H
noncomputable def aFH(t u:TS):TS:=fun D σ H=>t { D with nx:=u D } σ H
theorem aBX:PSs X [] aDr:=fun _ _ σ H _ I h=>A0h ⟨σ,H,I,h⟩
theorem KI(h1:PS X st t)(h2:PSs X rest u):PSs X (st::rest) (aFH t u):=by
 intro pins s σ H D I h;refine wpAny_execs_cons (thn (h1 pins s σ H { D with nx:=u D } I h) fun f s1 q=>?_);cases f with
 |next=>
  obtain⟨σ',H',I',q⟩:=q;exact h2 pins s1 σ' H' D I' q
 |ret v=>exact q
 |brk=>exact q
 |cont=>exact q
theorem PJ(h1:PS X st t):PSs X [st] t:=by
 intro pins s σ H D I h;refine wpAny_execs_cons (thn (h1 pins s σ H D I h) fun f s1 q=>?_);cases f with
 |next=>exact A0h q
 |ret v=>exact q
 |brk=>exact q
 |cont=>exact q
theorem Inv.quiet{pins:List (Addr×Obj)}(I:Inv X pins σ H s):interactive X.env=false:=by simp[interactive,I.ok.kind]
noncomputable def VE(te:TE):TS:=fun D σ H=>te σ H fun _ H1=>D.nx σ H1
theorem PK(he:PE X e te)(hs:swapsWith e none pos.line X.env=pure false:=by rfl):PS X (.Expr e pos) (VE te):=by
 intro pins s σ H D I h;exact wpAny_Expr_any (thn (he pins s σ H _ I h) fun v s1 ⟨x,H1,I1,r1,q1⟩=>⟨σ,H1,I1,q1⟩) I.quiet hs
noncomputable def aJe(te:TE):TS:=fun D σ H=>te σ H D.rt
theorem aFq(he:PE X e te):PS X (.Return (some e) pos) (aJe te):=by
 intro pins s σ H D I h;exact wpAny_Return_some (thn (he pins s σ H _ I h) fun v s1 ⟨x,H1,I1,r1,q1⟩=>⟨x,σ,H1,I1,r1,q1⟩)
noncomputable def aGk(c:TT)(t u:TS):TS:=fun D σ H=>c σ H fun b H1=>if b=true then t D σ H1 else u D σ H1
theorem aDo{c:Expr}{a b:List Stmt}{tc:TT}(hc:PT X c tc)(ha:PSs X a t)(hb:PSs X b u):PS X (.If c a b pos) (aGk tc t u):=by
 intro pins s σ H D I h;refine wpAny_If (thn (hc pins s σ H _ I h) fun d s1 ⟨H1,I1,q1⟩=>?_);cases d with
 |true=>exact ha pins s1 σ H1 D I1 q1
 |false=>exact hb pins s1 σ H1 D I1 q1
end
noncomputable abbrev TG:=V->St->Hp->(St->Hp->Prop)->Prop
noncomputable abbrev TGs:=List V->St->Hp->(St->Hp->Prop)->Prop
noncomputable def PG(X:Cx)(target:Expr)(t:TG):Prop:=
 ∀(pins:List (Addr×Obj))(s:Shared)(σ:St)(H:Hp)(v:V)(u:Value)(Q:St->Hp->Prop),Inv X pins σ H s->RelV v u->t v σ H Q->
  wpAny (model X.prog X.w) X.A (assign target X.env u) (fun _ s'=>∃σ' H',Inv X pins σ' H' s'/\Q σ' H') X.xe s
noncomputable def PGs(X:Cx)(ts:List Expr)(t:TGs):Prop:=
 ∀(pins:List (Addr×Obj))(s:Shared)(σ:St)(H:Hp)(vs:List V)(us:List Value)(Q:St->Hp->Prop),Inv X pins σ H s->bE vs us->t vs σ H Q->
  wpAny (model X.prog X.w) X.A (assignInOrder ((assignEach ts X.env).map (·.2)) us) (fun _ s'=>∃σ' H',Inv X pins σ' H' s'/\Q σ' H') X.xe s
noncomputable abbrev aBi:=V->V->V->Hp->(Hp->Prop)->Prop
noncomputable def aFK(X:Cx)(t:aBi):Prop:=
 ∀(pins:List (Addr×Obj))(s:Shared)(σ:St)(H:Hp)(o i v:V)(ov iv u:Value)(Q:Hp->Prop),Inv X pins σ H s->RelV o ov->RelV i iv->RelV v u->t o i v H Q->
  wpAny (model X.prog X.w) X.A (setItem ov iv u) (fun _ s'=>∃H',Inv X pins σ H' s'/\Q H') X.xe s
section
variable{X:Cx}{pos:Pos}
noncomputable def zT(i:Nat):TG:=fun v σ H Q=>Q (σ.set i (some v)) H
theorem aCY{i:Nat}{x:Str}(hN:X.N.Nodup)(hi:X.N[i]?=some x)(hx:Loc X.env.scope x)(hf:X.fn x=true\/X.env.scope.names.lookup x=some .local:=by first|exact .inl rfl|exact .inr rfl|assumption):PG X (.Name x pos) (zT i):=by
 intro pins s σ H v u Q I r h;exact wpAny_assign_Name (qT I hN hi hx r (fun s' I'=>⟨_,H,I',h⟩) hf)
noncomputable def aIf:TGs:=fun vs σ H Q=>vs=[]/\Q σ H
noncomputable def aDs(t:TG)(u:TGs):TGs:=fun vs σ H Q=>∃v r,vs=v::r/\t v σ H fun σ' H'=>u r σ' H' Q
theorem aCf:PGs X [] aIf:=by
 intro pins s σ H vs us Q I r h;obtain⟨e,h⟩:=h;subst e;cases r;exact assignInOrder_nil ⟨σ,H,I,h⟩
theorem aAj{e:Expr}{es:List Expr}{t:TG}{u:TGs}(h1:PG X e t)(h2:PGs X es u)
 (hs:(assignEach (e::es) X.env).map (·.2)=assign e X.env::(assignEach es X.env).map (·.2):=by rfl):PGs X (e::es) (aDs t u):=by
 intro pins s σ H vs us Q I r h;obtain⟨v,vr,e1,h⟩:=h;subst e1;cases r with
 |cons r rr=>
  rw[hs];refine assignInOrder_cons (thn (h1 pins s σ H _ _ _ I r h) fun _ s1 ⟨σ1,H1,I1,q1⟩=>?_);exact h2 pins s1 σ1 H1 _ _ Q I1 rr q1
noncomputable def aFs(K:Fg)(n:Nat)(t:TGs):TG:=fun v σ H Q=>∃a xs,v=.ref a/\SqT K H a xs/\xs.length=n/\t xs σ H Q
theorem aFZ{es:List Expr}{k:Nat}{t:TGs}{n:Nat}(hc:X.calm=true)(h:PGs X es t)
 (hn:(assignEach es X.env).length=n:=by rfl) (hst:(assignEach es X.env).findIdx? (·.1)=none:=by rfl):PG X (.Tuple es k pos) (aFs X.K n t):=by
 intro pins s σ H v u Q I r hw;obtain⟨a,xs,e1,hq,hl,hw⟩:=hw;subst e1;cases r;obtain⟨its,rv,ht,hz⟩:=I.tuple hq;refine assign_Tuple_tuple (I.ok.hd hc) ht (by simp[hn,<- hl,rv.length]) hst fun h' hx=>?_;have I1:Inv X pins σ H { s with heap:=h' }:=I.kept (t':=s.toks) fun b o e=>hx b o (C7 (B9 e)) e;exact h pins _ σ H xs _ Q I1 (by simpa using rv) hw
noncomputable def aHA(to ti:TE)(t:aBi):TG:=fun v σ H Q=>to σ H fun o H1=>ti σ H1 fun i H2=>t o i v H2 fun H3=>Q σ H3
theorem aEZ{o i:Expr}{to ti:TE}{t:aBi}(ho:PE X o to)(hi:PE X i ti)(hs:aFK X t)
 (ha:∀v,assign (.Subscript o i pos) X.env v=(do
  let ov <- holding [v] (eval o X.env);let iv <- holding [v,ov] (eval i X.env)
  standAt pos
  holding [v,ov,iv] (setItem ov iv v)
  release [v,ov,iv] []):=by intro _;rfl):PG X (.Subscript o i pos) (aHA to ti t):=by
 intro pins s σ H v u Q I r h;rw[ha];refine A1 (J1 (thn (ho pins s σ H _ I h) fun ov s1 ⟨x,H1,I1,r1,q1⟩=>?_));refine A1 (J1 (thn (hi pins s1 σ H1 _ I1 q1) fun iv s2 ⟨y,H2,I2,r2,q2⟩=>?_));refine A1 (Z4 (A1 (J1 (thn (hs pins s2 σ H2 x y v ov iv u _ I2 r1 r2 r q2) fun _ s3 ⟨H3,I3,q3⟩=>?_))));exact wpAny_release ⟨σ,H3,I3,q3⟩
noncomputable def WI(te:TE)(g:TG):TS:=fun D σ H=>te σ H fun x H1=>g x σ H1 D.nx
theorem aFy{tg e:Expr}{te:TE}{g:TG}(he:PE X e te)(hg:PG X tg g)(hs:swapsWithSole [tg] e pos.line X.env=pure false:=by rfl)(hw:swappedStores [tg] e X.env=pure none:=by rfl)
 (h1:(assignEach [tg] X.env).map (·.2)=[assign tg X.env]:=by rfl):PS X (.Assign [tg] e pos) (WI te g):=by
 intro pins s σ H D I h;refine wpAny_Assign_stores (thn (he pins s σ H _ I h) fun v s1 ⟨x,H1,I1,r1,q1⟩=>?_) hs hw;rw[h1];exact thn (hg pins s1 σ H1 x v _ I1 r1 q1) fun _ s2 q=>q
theorem aEL{i:Nat}{x:Str}{e:Expr}{te:TE}{pos':Pos}(hN:X.N.Nodup)(hi:X.N[i]?=some x)(hx:Loc X.env.scope x)(he:PE X e te)(hs:swapsWith e (some (.Name x pos')) pos.line X.env=pure false:=by rfl)(hf:X.fn x=true\/X.env.scope.names.lookup x=some .local:=by first|exact .inl rfl|exact .inr rfl|assumption):
 PS X (.Assign [.Name x pos'] e pos) (WI te (zT i)):=by
 intro pins s σ H D I h;refine wpAny_Assign_Name (thn (he pins s σ H _ I h) fun v s1 ⟨y,H1,I1,r1,q1⟩=>?_) hs;exact qT I1 hN hi hx r1 (fun s2 I2=>⟨_,H1,I2,q1⟩) hf
noncomputable def aJc(i j:Nat)(ta:TA):TS:=fun D σ H=>ta σ H fun vs H1=>∃v w,vs=[v,w]/\D.nx ((σ.set i (some v)).set j (some w)) H1
theorem aFn{i j:Nat}{x y:Str}{a b:Expr}{ta:TA}{px py pt:Pos}{kt k2 pt2}(hc:X.calm=true)(hN:X.N.Nodup)(hi:X.N[i]?=some x)(hj:X.N[j]?=some y)(hij:i≠j)
 (hx:X.env.scope.names.lookup x=some .local) (hy:X.env.scope.names.lookup y=some .local) (ha:PA X [a,b] ta)
 (hw:swappedStores [.Tuple [.Name x px,.Name y py] kt pt] (.Tuple [a,b] k2 pt2) X.env=pure (some [x,y]))
 (hs:swapsWithSole [.Tuple [.Name x px,.Name y py] kt pt] (.Tuple [a,b] k2 pt2) pos.line X.env=pure false:=by rfl):
 PS X (.Assign [.Tuple [.Name x px,.Name y py] kt pt] (.Tuple [a,b] k2 pt2) pos) (aJc i j ta):=by
 intro pins s σ H D I h;rw[exec_Assign_arm];refine A1 (Z4 ?_);rw[hs];refine A1 (B5 ?_);rw[A7 (by decide)];refine A1 (Tuple_ (thn (ha _ pins s σ H _ I h) fun us s1 ⟨vs,H1,I1,r1,q1⟩=>?_));obtain⟨v,w,e1,q1⟩:=q1;subst e1
 obtain⟨u1,u2,rfl,rv,rw'⟩:∃u1 u2,us=[u1,u2]/\RelV v u1/\RelV w u2:=by
  cases r1 with
  |cons p q=>
   cases q with
   |cons p' q'=>
    cases q';exact⟨_,_,rfl,p,p'⟩
 refine E2 ?_ (by show 2<=sizeLine;decide);have I2:Inv X pins σ H1 { s1 with heap:=s1.heap.push { cls:=.type "tuple",data:=.seq [u1,u2].toArray } }:=I1.kept (t':=s1.toks) fun b o e=>A4 _ e;rw[hw];refine A1 (B5 ?_);show wpAny (model X.prog X.w) X.A (do rule "assign.swapped-stores";let items <- unpackItems (.ref s1.heap.objs.size) 2 none;assignInOrder [fun v=>bindName X.env y v,fun v=>bindName X.env x v] items.reverse;pure Flow.next) _ _ _;refine A1 (wpAny_rule (A1 (unpackItems_tuple (items:=#[u1,u2]) (I.ok.hd hc) (IsTup.new s1.heap _) fun h' hx'=>?_)));have I3:=I2.kept (h':=h') (t':=s1.toks) fun b o e=>hx' b o (C7 (B9 e)) e;show wpAny _ _ (assignInOrder [fun v=>bindName X.env y v,fun v=>bindName X.env x v] [u2,u1] >>= fun _=>pure Flow.next) _ _ _;refine A1 (assignInOrder_cons (wpAny_bindName (qT I3 hN hj (.inl hy) rw' (fun s2 I4=>?_) (.inr hy))));refine assignInOrder_cons (wpAny_bindName (qT I4 hN hi (.inl hx) rv (fun s3 I5=>assignInOrder_nil (B5 ?_)) (.inr hx)));rw[List.set_comm _ _ (O3 hij)]at I5;exact⟨_,H1,I5,q1⟩
end
section
variable{X:Cx}{pos:Pos}
noncomputable def aAx(c:TT)(tb:TS):TS:=fun D σ H=>∃W:Nat->St->Hp->Prop,(∃m,W m σ H)/\∀m σ H,W m σ H->
 c σ H fun b H1=>if b=true then ∃N:St->Hp->Prop,(∀σ' H',N σ' H'->∃m',m'<m/\W m' σ' H')/\tb { D with nx:=N,ct:=N,bk:=D.nx } σ H1 else D.nx σ H1
theorem aAT{c:Expr}{body:List Stmt}{tc:TT}{tb:TS}(hp:PassesOwn (model X.prog X.w) X.A X.env X.xe)(hc:PT X c tc)(hb:PSs X body tb):PS X (.While c body [] pos) (aAx tc tb):=by
 intro pins s σ H D I h;obtain⟨W,⟨m0,w0⟩,turn⟩:=h;refine wpAny_While (codeAny_whileLoop (fun n s'=>∃σ' H',Inv X pins σ' H' s'/\W n σ' H') ?_ m0 ⟨σ,H,I,w0⟩);rintro n s1 ⟨σ1,H1,I1,w1⟩;refine Y0 hp (thn (hc pins s1 σ1 H1 _ I1 (turn n σ1 H1 w1)) fun b s2 ⟨H2,I2,q2⟩=>?_);cases b with
 |true=>
  obtain⟨N,hN,q2⟩:=q2;rw[A3 rfl];refine Y0 hp (thn (hb pins s2 σ1 H2 _ I2 q2) fun f s3 q3=>?_);cases f with
  |next=>
   obtain⟨σ3,H3,I3,n3⟩:=q3;obtain⟨m',hm,w3⟩:=hN σ3 H3 n3;exact⟨m',hm,σ3,H3,I3,w3⟩
  |cont=>
   obtain⟨σ3,H3,I3,n3⟩:=q3;obtain⟨m',hm,w3⟩:=hN σ3 H3 n3;exact⟨m',hm,σ3,H3,I3,w3⟩
  |brk=>exact q3
  |ret v=>exact q3
 |false=>
  rw[A7 A8];exact A0h ⟨σ1,H2,I2,q2⟩
end
structure It where
 go:Nat->Hp->Prop
 yld:Nat->Hp->V->Hp->Prop
 stop:Nat->Hp->Prop
noncomputable def pY(X:Cx)(pins:List (Addr×Obj))(H:Hp)(b:Addr):Prop:=
 H b=none/\b≠X.env.locals/\b∉X.fs/\(b∈X.ex\/X.s₀.heap.objs.size<=b)/\(∀x c,X.env.cells.lookup x=some c->c≠b)/\∀p∈X.pn++pins,p.1≠b
theorem Inv.fpOk{X:Cx}{pins:List (Addr×Obj)}{H':Hp}{b:Addr}(I:Inv X pins σ H s)(hb:s.heap.objs.size<=b)(hn:H' b=none):pY X pins H' b:=by
 refine⟨hn,Nat.ne_of_gt (C3 I.lt hb),I.nofs hb,.inr (F0 I.sz hb),fun x c e z=>?_,fun p hp z=>?_⟩
 .obtain⟨v,q⟩:=I.cell x c e;exact absurd (C3 q.lt (by rw[z];exact hb)) (F8 _)
 .exact absurd (C3 (B9 (I.pin p hp).1) (by rw[z];exact hb)) (F8 _)
structure Turn(P:Program)(w:World)(K:Fg)(tg:Expr)(J:It)(fp:List Addr)(it:Addr)(tn:Nat->Heap->Prop):Prop where
 mem:it∈fp
 obj:∀i h,tn i h->∀b∈fp,∃o,h.get? b=some o/\∀v,o.data≠.cell v
 keep:∀i h h',tn i h->(∀b∈fp,∀o,h.get? b=some o->h'.get? b=some o)->tn i h'
 item:∀(X:Cx),X.prog=P->X.w=w->X.K=K->X.calm=true->∀(i:Nat)(pins:List (Addr×Obj))(s:Shared)(σ:St)(H:Hp)(E:Value->Shared->Prop),Inv X pins σ H s->(∀b∈fp,pY X pins H b)->tn i s.heap->J.go i H->
  wpAny (model P w) X.A (pyNext (.ref it)) (fun r s1=>∃u,r=some u /\
   wpAny (model P w) X.A (letOwnedTupleGo tg (.ref it) u) (fun _ s2=>∃x H',Inv X pins σ H' s2/\RelV x u/\J.yld i H x H'/\tn (i+1) s2.heap/\∀b∈fp,H' b=none) E s1) E s
 done:∀(X:Cx),X.prog=P->X.w=w->X.K=K->X.calm=true->∀(i:Nat)(pins:List (Addr×Obj))(s:Shared)(σ:St)(H:Hp)(E:Value->Shared->Prop),Inv X pins σ H s->(∀b∈fp,pY X pins H b)->tn i s.heap->J.stop i H->
  wpAny (model P w) X.A (pyNext (.ref it)) (fun r s1=>r=none/\Inv X pins σ H s1) E s
 self:∀(A:Around)(i:Nat)(s:Shared)(Q:Value->Shared->Prop)(E:Value->Shared->Prop),tn i s.heap->Q (.ref it) s->wpAny (model P w) A (pyIter (.ref it)) Q E s
noncomputable abbrev TI:=St->Hp->(It->Hp->Prop)->Prop
noncomputable def PIE(X:Cx)(pins:List (Addr×Obj))(σ:St)(tg:Expr)(R:It->Hp->Prop)(itv:Value)(s2:Shared):Prop:=
 ∃(it:Addr)(fp:List Addr)(tn:Nat->Heap->Prop)(J:It)(H':Hp),itv=.ref it/\Inv X pins σ H' s2/\Turn X.prog X.w X.K tg J fp it tn/\tn 0 s2.heap/\(∀b∈fp,pY X pins H' b)/\R J H'
noncomputable def PI(X:Cx)(tg iter:Expr)(wi:TI):Prop:=
 ∀(pins:List (Addr×Obj))(s:Shared)(σ:St)(H:Hp)(R:It->Hp->Prop),Inv X pins σ H s->wi σ H R->
  wpAny (model X.prog X.w) X.A (eval iter X.env) (fun v s1=>wpAny (model X.prog X.w) X.A (pyIter v) (PIE X pins σ tg R) X.xe s1) X.xe s
theorem UX{M:Model}{A:Around}{E:Value->Shared->Prop}{tg:Expr}{it:Addr}{u:Value}{o:Obj}{n:String}{vs:Array Value}{Q:Unit->Shared->Prop}(ho:s.heap.get? it=some o)(hc:o.cls=.type n)(hd:o.data=.fields vs)
 (hn:["enumerate","zip","dict_itemiterator","dict_reverseitemiterator","odict_iterator","itertools.zip_longest","itertools.pairwise"].contains n=false) (hQ:Q () s):wpAny M A (letOwnedTupleGo tg (.ref it) u) Q E s:=by
 unfold letOwnedTupleGo
 cases tg<;>first
  |exact B5 hQ
  |(cases u<;>first
   |exact B5 hQ
   | (refine A1 (wpAny_load ho ?_)
      rw[hc,hd];show wpAny M A (if (["enumerate","zip","dict_itemiterator","dict_reverseitemiterator","odict_iterator","itertools.zip_longest","itertools.pairwise"].contains n&&vs[0]?==some (rawInt _))=true then _ else _) Q E s;rw[A7 (by intro h;rw[hn,J9]at h;cases h)];exact B5 hQ))
noncomputable def Itl(K:Fg)(a:Addr):It:=
 ⟨fun i H=>∃xs x,SqL K H a xs/\xs[i]?=some x,fun i H x H'=>H'=H/\∀xs,SqL K H a xs->xs[i]?=some x,fun i H=>∃xs,SqL K H a xs/\xs.length<=i⟩
noncomputable def Itt(K:Fg)(a:Addr):It:=
 ⟨fun i H=>∃xs x,SqT K H a xs/\xs[i]?=some x,fun i H x H'=>H'=H/\∀xs,SqT K H a xs->xs[i]?=some x,fun i H=>∃xs,SqT K H a xs/\xs.length<=i⟩
noncomputable def Itr(lo:Int)(n:Nat):It:=⟨fun i _=>i<n,fun i H x H'=>H'=H/\x=.int (lo+i),fun i _=>n<=i⟩
theorem UC{P:Program}{w:World}{tg:Expr}(a it:Addr):Turn P w K tg (Itl K a) [it] it (fun i h=>h.IsListIter it a i) where
 mem:=by simp
 obj:=fun i h st b hb=>by
  have e:b=it:=by simpa using hb
  subst e;obtain⟨o,e,c,d⟩:=st;exact⟨o,e,fun v z=>by rw[d]at z;cases z⟩
 keep:=fun i h h' st k=>st.at fun o e=>k it (by simp) o e
 item:=by
  intro X hP hw hK hc i pins s σ H E I hf st hg;subst hP hw hK;obtain⟨xs,x,hq,hx⟩:=hg;obtain⟨its,rv,p,hz⟩:=I.list hq;obtain⟨u,hu,ru⟩:=rv.get hx;obtain⟨f0,f1,f2,f3,f4,f5⟩:=hf it (by simp);refine wpAny_pyNext_list_item st p.isList (x:=u) (by simpa using hu) fun h' st' sb=>?_;have I1:Inv X pins σ H { s with heap:=h' }:=I.turned (t':=s.toks) (fun b o hb e=>(sb.2 b hb).trans e) f0 f1 f3 f4 f5;obtain⟨o,e,c,d⟩:=id st';exact⟨u,rfl,UX (s:={ s with heap:=h' }) e c d (by decide) ⟨x,H,I1,ru,⟨rfl,fun ys hy=>by rw[I.list_inj hy hq];exact hx⟩,st',fun b hb=>(hf b hb).1⟩⟩
 done:=by
  intro X hP hw hK hc i pins s σ H E I hf st hg;subst hP hw hK;obtain⟨xs,hq,hx⟩:=hg;obtain⟨its,rv,p,hz⟩:=I.list hq;obtain⟨f0,f1,f2,f3,f4,f5⟩:=hf it (by simp);have hl:=rv.length;exact wpAny_pyNext_list_end (I.ok.hd hc) st p.isList (by simp;omega) fun h' eb=>⟨rfl,I.turned (t':=s.toks) (fun b o hb e=>eb b o hb e) f0 f1 f3 f4 f5⟩
 self:=fun _ _ _ _ _ st h=>wpAny_pyIter_listiter st h
theorem MR{P:Program}{w:World}{tg:Expr}(a it:Addr):Turn P w K tg (Itt K a) [it] it (fun i h=>h.IsTupleIter it a i) where
 mem:=by simp
 obj:=fun i h st b hb=>by
  have e:b=it:=by simpa using hb
  subst e;obtain⟨o,e,c,d⟩:=st;exact⟨o,e,fun v z=>by rw[d]at z;cases z⟩
 keep:=fun i h h' st k=>st.at fun o e=>k it (by simp) o e
 item:=by
  intro X hP hw hK hc i pins s σ H E I hf st hg;subst hP hw hK;obtain⟨xs,x,hq,hx⟩:=hg;obtain⟨its,rv,p,hz⟩:=I.tuple hq;obtain⟨u,hu,ru⟩:=rv.get hx;obtain⟨f0,f1,f2,f3,f4,f5⟩:=hf it (by simp);refine wpAny_pyNext_tuple_item st (show s.heap.IsTuple a its.toArray from p) (x:=u) (by simpa using hu) fun h' st' sb=>?_;have I1:Inv X pins σ H { s with heap:=h' }:=I.turned (t':=s.toks) (fun b o hb e=>(sb.2 b hb).trans e) f0 f1 f3 f4 f5;obtain⟨o,e,c,d⟩:=id st';exact⟨u,rfl,UX (s:={ s with heap:=h' }) e c d (by decide) ⟨x,H,I1,ru,⟨rfl,fun ys hy=>by rw[I.tuple_inj hy hq];exact hx⟩,st',fun b hb=>(hf b hb).1⟩⟩
 done:=by
  intro X hP hw hK hc i pins s σ H E I hf st hg;subst hP hw hK;obtain⟨xs,hq,hx⟩:=hg;obtain⟨its,rv,p,hz⟩:=I.tuple hq;obtain⟨f0,f1,f2,f3,f4,f5⟩:=hf it (by simp);have hl:=rv.length;exact wpAny_pyNext_tuple_end (I.ok.hd hc) st (show s.heap.IsTuple a its.toArray from p) (by simp;omega) fun h' eb=>⟨rfl,I.turned (t':=s.toks) (fun b o hb e=>eb b o hb e) f0 f1 f3 f4 f5⟩
 self:=fun _ _ _ _ _ st h=>wpAny_pyIter_tupleiter st h
theorem MM{P:Program}{w:World}{tg:Expr}(it:Addr)(lo:Int)(n:Nat):Turn P w K tg (Itr lo n) [it] it (fun i h=>IsRangeIter h it (lo+(i:Nat)*1) ((n:Int)-(i:Nat)) 1) where
 mem:=by simp
 obj:=fun i h st b hb=>by
  have e:b=it:=by simpa using hb
  subst e
  exact⟨_,st,fun v z=>by
   have z':Data.fields _=Data.cell v:=z;cases z'⟩
 keep:=fun i h h' st k=>k it (by simp) _ st
 item:=by
  intro X hP hw hK hc i pins s σ H E I hf st hg;subst hP hw hK;obtain⟨f0,f1,f2,f3,f4,f5⟩:=hf it (by simp);have W:=Walks.range (prog:=X.prog) (w:=X.w) (I.ok.hd hc) it lo 1 n;refine W.item i s _ _ hg st fun v h' tk hv st' kk=>?_;obtain⟨t,rfl⟩:=hv;have I1:Inv X pins σ H { s with heap:=h',toks:=tk }:=I.turned (fun b o hb e=>kk b o (by simpa using hb) e) f0 f1 f3 f4 f5;refine⟨_,rfl,UX (s:={ s with heap:=h',toks:=tk }) (n:="range_iterator") st' rfl rfl (by decide) ⟨.int (lo+i),H,I1,⟨t,?_⟩,⟨rfl,rfl⟩,st',fun b hb=>(hf b hb).1⟩⟩;rw[Int.mul_one]
 done:=by
  intro X hP hw hK hc i pins s σ H E I hf st hg;subst hP hw hK;obtain⟨f0,f1,f2,f3,f4,f5⟩:=hf it (by simp);exact wpAny_pyNext_range_end (I.ok.hd hc) st (by have:n<=i:=hg;omega) fun h' eb=>⟨rfl,I.turned (t':=s.toks) (fun b o hb e=>eb b o hb e) f0 f1 f3 f4 f5⟩
 self:=fun _ _ _ _ _ st h=>wpAny_pyIter_rangeiter st h
section
variable{X:Cx}{tg:Expr}
theorem JR{pins:List (Addr×Obj)}{R:It->Hp->Prop}{E:Value->Shared->Prop}{lo hi:Int}{t u v:Tok}{tk:Nat}(I:Inv X pins σ H s)(h1:-(2 ^ 62)<=lo)(h2:lo<2 ^ 62)(h3:-(2 ^ 62)<=hi)(h4:hi<2 ^ 62)
 (q:R (Itr lo (hi-lo).toNat) H):wpAny (model X.prog X.w) X.A (pyIter (.ref s.heap.objs.size)) (PIE X pins σ tg R) E { s with heap:=s.heap.push { cls:=.type "range",data:=.fields #[.int lo t,.int hi u,.int 1 v] },toks:=tk }:=by
 refine wpAny_pyIter_range (IsRange.new ..) (small_one h1 h2 h3 h4) ?_;have I1:Inv X pins σ H { s with heap:=s.heap.push { cls:=.type "range",data:=.fields #[.int lo t,.int hi u,.int 1 v] },toks:=tk }:=I.kept fun b o e=>A4 _ e
 refine⟨(s.heap.push { cls:=.type "range",data:=.fields #[.int lo t,.int hi u,.int 1 v] }).objs.size,[(s.heap.push { cls:=.type "range",data:=.fields #[.int lo t,.int hi u,.int 1 v] }).objs.size],_,_,H,rfl,
  I1.kept (t':=tk) fun b o e=>A4 _ e,MM _ lo (hi-lo).toNat,?_,fun b hb=>?_,q⟩
 .have e1:lo+((0:Nat):Int)*1=lo:=by simp
  have e2:(((hi-lo).toNat:Nat):Int)-((0:Nat):Int)=Builtin.Range.rangeSize lo hi 1:=by rw[rangeSize_one];split<;>omega
  show IsRangeIter _ _ (lo+((0:Nat):Int)*1) ((((hi-lo).toNat:Nat):Int)-((0:Nat):Int)) 1;rw[e1,e2];exact D1 _ rfl
 .have e:b=(s.heap.push { cls:=.type "range",data:=.fields #[.int lo t,.int hi u,.int 1 v] }).objs.size:=by simpa using hb
  subst e;exact I1.fpOk (A6 _) (I1.hok.fresh (A6 _))
noncomputable def aDz(ta:TA):TI:=fun σ H R=>ta σ H fun vs H1=>∃j:Int,vs=[.int j]/\-(2 ^ 62)<=j/\j<2 ^ 62/\R (Itr 0 j.toNat) H1
noncomputable def aDu(ta:TA):TI:=fun σ H R=>ta σ H fun vs H1=>∃i j:Int,vs=[.int i,.int j]/\(-(2 ^ 62)<=i/\i<2 ^ 62/\-(2 ^ 62)<=j/\j<2 ^ 62)/\R (Itr i (j-i).toNat) H1
theorem QZ{a:Expr}{ta:TA}{p:Pos}(hg:Gl X "range")(hm:X.mg "range"=none)(ha:PA X [a] ta)(hs:starEach [a] X.env=[(false,eval a X.env)]:=by rfl):PI X tg (.Call (.Name "range" p) [a] [] pos) (aDz ta):=by
 intro pins s σ H R I h;refine Call_ (mV I hg hm boot_range (F9 (thn (ha pos pins s σ H _ I h) fun us s1 ⟨vs,H1,I1,r1,q1⟩=>?_) hs rfl));obtain⟨j,e,q1,q2,q⟩:=q1;subst e;cases r1 with
 |cons r rr=>
  cases rr;obtain⟨t,rfl⟩:=r;exact call_range_1 (JR I1 (by omega) (by omega) q1 q2 (by simpa using q))
theorem RC{a b:Expr}{ta:TA}{p pos:Pos}(hg:Gl X "range")(hm:X.mg "range"=none)(ha:PA X [a,b] ta)(hs:starEach [a,b] X.env=[(false,eval a X.env),(false,eval b X.env)]:=by rfl)(hs2:starEach [b] X.env=[(false,eval b X.env)]:=by rfl):
 PI X tg (.Call (.Name "range" p) [a,b] [] pos) (aDu ta):=by
 intro pins s σ H R I h;refine Call_ (mV I hg hm boot_range (F9 (thn (ha pos pins s σ H _ I h) fun us s1 ⟨vs,H1,I1,r1,q1⟩=>?_) (by rw[hs,hs2]) (by rw[hs2];rfl)));obtain⟨i,j,e,⟨q1,q2,q3,q4⟩,q⟩:=q1;subst e;cases r1 with
 |cons r rr=>
  cases rr with
  |cons r' rr=>
   cases rr;obtain⟨t,rfl⟩:=r;obtain⟨t',rfl⟩:=r';exact call_range_2 (JR I1 q1 q2 q3 q4 q)
noncomputable def aFP(wi:TI)(g:TG)(tb:TS):TS:=fun D σ H=>wi σ H fun J H1=>∃W:Nat->Nat->St->Hp->Prop,(∃m,W 0 m σ H1)/\∀i m σ H,W i m σ H->
 (J.stop i H/\D.nx σ H)\/(J.go i H/\∃N:St->Hp->Prop,(∀σ' H',N σ' H'->∃m',m'<m/\W (i+1) m' σ' H')/\∀x H',J.yld i H x H'->g x σ H' fun σ2 H2=>tb { D with nx:=N,ct:=N,bk:=D.nx } σ2 H2)
noncomputable def wH(fp:List Addr)(h:Heap):List (Addr×Obj):=fp.filterMap fun b=>(h.get? b).map fun o=>(b,o)
theorem iP{fp:List Addr}{h:Heap}{b:Addr}{o:Obj}(hb:b∈fp)(e:h.get? b=some o):(b,o)∈wH fp h:=List.mem_filterMap.mpr ⟨b,hb,by rw[e];rfl⟩
theorem SB{fp:List Addr}{h:Heap}{p:Addr×Obj}(hp:p∈wH fp h):p.1∈fp/\h.get? p.1=some p.2:=by
 obtain⟨b,hb,e⟩:=List.mem_filterMap.mp hp;cases q:h.get? b with
 |none=>rw[q]at e;cases e
 |some o=>
  rw[q]at e;have e':(b,o)=p:=D5 e;subst e';exact⟨hb,q⟩
theorem Inv.pinned{pins:List (Addr×Obj)}{fp:List Addr}(I:Inv X pins σ H s)(hf:∀b∈fp,pY X pins H b)(ho:∀b∈fp,∃o,s.heap.get? b=some o/\∀v,o.data≠.cell v):Inv X (pins++wH fp s.heap) σ H s:=
 I.pins_of fun p hp=>(List.mem_append.mp hp).elim (fun z=>I.pin p (C0 _ z)) fun z=>by
  obtain⟨hb,e⟩:=SB z;obtain⟨f0,f1,f2,_⟩:=hf p.1 hb;obtain⟨o,e',d⟩:=ho p.1 hb;rw[e]at e';cases e';exact⟨e,f0,f1,f2,d⟩
theorem Inv.unpinned{pins pl:List (Addr×Obj)}(I:Inv X (pins++pl) σ H s):Inv X pins σ H s:=I.pins_of fun p hp=>I.pin p (C0 _ (C9 _ hp))
theorem UO{iter:Expr}{body:List Stmt}{wi:TI}{g:TG}{tb:TS}{pos:Pos}(hp:PassesOwn (model X.prog X.w) X.A X.env X.xe)(hc:X.calm=true)(hi:PI X tg iter wi)(hg:PG X tg g)(hb:PSs X body tb)
 (hs:∀x,foldedSetIterable iter X.env x=pure x:=by intro _;rfl):PS X (.For tg iter body [] pos) (aFP wi g tb):=by
 intro pins s σ H D I h;refine wpAny_For (thn (hi pins s σ H _ I h) fun v s1 h1=>thn h1 fun itv s2 h2=>?_) hs;obtain⟨it,fp,tn,J,H2,e,I2,T,st2,f2,W,⟨m0,w0⟩,turn⟩:=h2;subst e;have stat:∀{H':Hp},(∀b∈fp,H' b=none)->∀b∈fp,pY X pins H' b:=fun hn b hb=>⟨hn b hb,(f2 b hb).2⟩;refine codeAny_forLoop_any (fun n s'=>∃i σ' H',Inv X pins σ' H' s'/\tn i s'.heap/\(∀b∈fp,H' b=none)/\W i n σ' H') ?_ m0 ⟨0,σ,H2,I2,st2,fun b hb=>(f2 b hb).1,w0⟩;rintro n s3 ⟨i,σ3,H3,I3,st3,fr3,w3⟩;rcases turn i n σ3 H3 w3 with⟨stop,qn⟩|⟨go,N,hN,step⟩
 .refine Y0 hp (thn (T.done X rfl rfl rfl hc i pins s3 σ3 H3 X.xe I3 (stat fr3) st3 stop) fun r s4 ⟨hr,I4⟩=>?_);subst hr;exact A0h ⟨σ3,H3,I4,qn⟩
 .refine Y0 hp (thn (T.item X rfl rfl rfl hc i pins s3 σ3 H3 X.xe I3 (stat fr3) st3 go) fun r s4 ⟨u,hr,h4⟩=>?_);subst hr;refine Y0 hp (thn h4 fun _ s5 ⟨x,H5,I5,r5,y5,st5,fr5⟩=>?_);have I5':=I5.pinned (stat fr5) (T.obj _ _ st5);refine Y0 hp (thn (hg _ s5 σ3 H5 x u _ I5' r5 (step x H5 y5)) fun _ s6 ⟨σ6,H6,I6,q6⟩=>?_);refine Y0 hp (thn (hb _ s6 σ6 H6 _ I6 q6) fun f s7 q7=>?_)
  have again:∀{σ7:St}{H7:Hp},Inv X (pins++wH fp s5.heap) σ7 H7 s7->N σ7 H7->∃m,m<n/\∃i σ' H',Inv X pins σ' H' s7/\tn i s7.heap/\(∀b∈fp,H' b=none)/\W i m σ' H':=fun{σ7 H7} I7 n7=>by
   obtain⟨m',hm,w7⟩:=hN σ7 H7 n7;refine⟨m',hm,i+1,σ7,H7,I7.unpinned,T.keep _ _ _ st5 fun b hb o e=>(I7.pin (b,o) (C0 _ (C0 _ (iP hb e)))).1,fun b hb=>?_,w7⟩;obtain⟨o,e,d⟩:=T.obj _ _ st5 b hb;exact(I7.pin (b,o) (C0 _ (C0 _ (iP hb e)))).2.1
  cases f with
  |next=>obtain⟨σ7,H7,I7,n7⟩:=q7;exact again I7 n7
  |cont=>obtain⟨σ7,H7,I7,n7⟩:=q7;exact again I7 n7
  |brk=>obtain⟨σ7,H7,I7,q7⟩:=q7;exact⟨σ7,H7,I7.unpinned,q7⟩
  |ret v=>obtain⟨x7,σ7,H7,I7,r7,q7⟩:=q7;exact⟨x7,σ7,H7,I7.unpinned,r7,q7⟩
end
noncomputable abbrev R2:=V->V->Hp->VK->Prop
noncomputable def OpR(X:Cx)(f:Value->Value->Sem Value)(r:R2):Prop:=
 ∀(pins:List (Addr×Obj))(s:Shared)(σ:St)(H:Hp)(x y:V)(v u:Value)(Q:VK),Inv X pins σ H s->RelV x v->RelV y u->r x y H Q->
  wpAny (model X.prog X.w) X.A (f v u) (EP X pins σ Q) X.xe s
noncomputable def UnR(X:Cx)(f:Value->Sem Value)(r:V->Hp->VK->Prop):Prop:=
 ∀(pins:List (Addr×Obj))(s:Shared)(σ:St)(H:Hp)(x:V)(v:Value)(Q:VK),Inv X pins σ H s->RelV x v->r x H Q->
  wpAny (model X.prog X.w) X.A (f v) (EP X pins σ Q) X.xe s
noncomputable def fV(X:Cx)(f:Value)(r:List V->Hp->VK->Prop):Prop:=
 ∀(pins:List (Addr×Obj))(s:Shared)(σ:St)(H:Hp)(xs:List V)(us:List Value)(Q:VK),Inv X pins σ H s->bE xs us->r xs H Q->
  wpAny (model X.prog X.w) X.A (call f us) (EP X pins σ Q) X.xe s
noncomputable def aJp(X:Cx)(r:V->Hp->(Bool->Hp->Prop)->Prop):Prop:=
 ∀(pins:List (Addr×Obj))(s:Shared)(σ:St)(H:Hp)(x:V)(v:Value)(Q:Bool->Hp->Prop),Inv X pins σ H s->RelV x v->r x H Q->
  wpAny (model X.prog X.w) X.A (truthy v) (TP X pins σ Q) X.xe s
noncomputable def tOp(r:R2)(ta tb:TE):TE:=fun σ H Q=>ta σ H fun x H1=>tb σ H1 fun y H2=>r x y H2 Q
noncomputable def tUn(r:V->Hp->VK->Prop)(ta:TE):TE:=fun σ H Q=>ta σ H fun x H1=>r x H1 Q
noncomputable def rI(C:Int->Int->Prop)(g:Int->Int->V):R2:=fun x y H Q=>∃i j,x=.int i/\y=.int j/\C i j/\Q (g i j) H
noncomputable def rI0(g:Int->Int->V):R2:=fun x y H Q=>∃i j,x=.int i/\y=.int j/\Q (g i j) H
noncomputable def rU(g:Int->V):V->Hp->VK->Prop:=fun x H Q=>∃i,x=.int i/\Q (g i) H
section
variable{X:Cx}{a b c:Expr}{ta tb tc:TE}{pos:Pos}
theorem aEN(ha:PE X a ta)(hb:PE X b tb){pins:List (Addr×Obj)}{R:V->V->Hp->Prop}(I:Inv X pins σ H s)
 (h:ta σ H fun x H1=>tb σ H1 fun y H2=>R x y H2) {Q:Value->Shared->Prop} {f:Value->Value->Sem Value}
 (hf:∀v u s2 x y H2,Inv X pins σ H2 s2->RelV x v->RelV y u->R x y H2->wpAny (model X.prog X.w) X.A (f v u) Q X.xe s2):
 wpAny (model X.prog X.w) X.A (eval a X.env) (fun v s₁=>wpAny (model X.prog X.w) X.A (eval b X.env) (fun u s₂=>wpAny (model X.prog X.w) X.A (f v u) Q X.xe s₂) X.xe s₁) X.xe s:=by
 refine thn (ha pins s σ H _ I h) fun v s1 ⟨x,H1,I1,r1,q1⟩=>?_;refine thn (hb pins s1 σ H1 _ I1 q1) fun u s2 ⟨y,H2,I2,r2,q2⟩=>?_;exact hf v u s2 x y H2 I2 r1 r2 q2
theorem aHp{op:Operator}{r:R2}(ho:OpR X (binaryOp op) r)(ha:PE X a ta)(hb:PE X b tb):PE X (.BinOp a op b pos) (tOp r ta tb):=by
 intro pins s σ H Q I h;exact wpAny_BinOp (aEN ha hb I h fun v u s2 x y H2 I2 rx ry q=>ho pins s2 σ H2 x y v u Q I2 rx ry q)
theorem aHw{op:UnaryOp}{r:V->Hp->VK->Prop}(ho:UnR X (unaryOp op) r)(ha:PE X a ta):PE X (.UnaryOp op a pos) (tUn r ta):=by
 intro pins s σ H Q I h;exact UnaryOp_ (thn (ha pins s σ H _ I h) fun v s1 ⟨x,H1,I1,r1,q1⟩=>ho pins s1 σ H1 x v Q I1 r1 q1)
theorem opI{f:Value->Value->Sem Value}{C:Int->Int->Prop}{g:Int->Int->Int}
 (rule:∀(i j:Int)(t u:Tok)(s:Shared)(Q:Value->Shared->Prop)(E:Value->Shared->Prop),C i j->Q (.int (g i j) s.toks) { s with toks:=s.toks+1 }->wpAny (model X.prog X.w) X.A (f (.int i t) (.int j u)) Q E s):
 OpR X f (rI C fun i j=>.int (g i j)):=by
 intro pins s σ H x y v u Q I rx ry h;obtain⟨i,j,rfl,rfl,hc,q⟩:=h;obtain⟨t,rfl⟩:=rx;obtain⟨t',rfl⟩:=ry;exact rule i j t t' s _ _ hc ⟨.int (g i j),H,I.tok _,⟨_,rfl⟩,q⟩
theorem aIN{f:Value->Value->Sem Value}{g:Int->Int->Int}
 (rule:∀(i j:Int)(t u:Tok)(s:Shared)(Q:Value->Shared->Prop)(E:Value->Shared->Prop),Q (.int (g i j) s.toks) { s with toks:=s.toks+1 }->wpAny (model X.prog X.w) X.A (f (.int i t) (.int j u)) Q E s):
 OpR X f (rI0 fun i j=>.int (g i j)):=by
 intro pins s σ H x y v u Q I rx ry h;obtain⟨i,j,rfl,rfl,q⟩:=h;obtain⟨t,rfl⟩:=rx;obtain⟨t',rfl⟩:=ry;exact rule i j t t' s _ _ ⟨.int (g i j),H,I.tok _,⟨_,rfl⟩,q⟩
theorem aCt{f:Value->Value->Sem Value}{g:Int->Int->Bool}
 (rule:∀(i j:Int)(t u:Tok)(s:Shared)(Q:Value->Shared->Prop)(E:Value->Shared->Prop),Q (.bool (g i j)) s->wpAny (model X.prog X.w) X.A (f (.int i t) (.int j u)) Q E s):
 OpR X f (rI0 fun i j=>.bl (g i j)):=by
 intro pins s σ H x y v u Q I rx ry h;obtain⟨i,j,rfl,rfl,q⟩:=h;obtain⟨t,rfl⟩:=rx;obtain⟨t',rfl⟩:=ry;exact rule i j t t' s _ _ ⟨.bl (g i j),H,I,rfl,q⟩
noncomputable def aIr(i j:Int):Prop:=0<=j/\j<=1000000/\i.natAbs<2 ^ 64
noncomputable def aEc(i j:Int):Prop:=(-(2 ^ 64)<i/\i<2 ^ 64)\/(-(2 ^ 64)<j/\j<2 ^ 64)
theorem aEc.ok{i j:Int}(h:aEc i j):IntMulOk i j:=by
 rcases h with⟨h1,h2⟩|⟨h1,h2⟩
 .exact .of_left (intBits_le_64 h1 h2)
 .exact .of_right (intBits_le_64 h1 h2)
theorem op_add:OpR X (binaryOp .Add) (rI0 fun i j=>.int (i+j)):=aIN fun _ _ _ _ _ _ _ q=>add_int q
theorem aEf:OpR X (binaryOp .Sub) (rI0 fun i j=>.int (i-j)):=aIN fun _ _ _ _ _ _ _ q=>sub_int q
theorem aGq:OpR X (binaryOp .Mod) (rI (fun _ j=>0<j) fun i j=>.int (i % j)):=opI fun i j _ _ _ _ _ hc q=>by
 have h1:(0:Int)<j:=hc;exact mod_int' (by omega) (by rw[Int.fmod_eq_emod_of_nonneg i (by omega)];exact q)
theorem aFl:OpR X (binaryOp .Pow) (rI aIr fun i j=>.int (i ^ j.toNat)):=opI fun _ _ _ _ _ _ _ hc q=>pow_int_small hc.1 hc.2.1 hc.2.2 q
theorem unI{f:Value->Sem Value}{g:Int->Int}
 (rule:∀(i:Int)(t:Tok)(s:Shared)(Q:Value->Shared->Prop)(E:Value->Shared->Prop),Q (.int (g i) s.toks) { s with toks:=s.toks+1 }->wpAny (model X.prog X.w) X.A (f (.int i t)) Q E s):
 UnR X f (rU fun i=>.int (g i)):=by
 intro pins s σ H x v Q I rx h;obtain⟨i,rfl,q⟩:=h;obtain⟨t,rfl⟩:=rx;exact rule i t s _ _ ⟨.int (g i),H,I.tok _,⟨_,rfl⟩,q⟩
theorem aEg:UnR X (unaryOp .USub) (rU fun i=>.int (-i)):=unI fun _ _ _ _ _ q=>neg_int q
end
noncomputable def aIq:V->V->Bool
 |.non,.non=>true|.non,.int _=>true|.int _,.non=>true|.non,.bl _=>true|.bl _,.non=>true|.non,.str _=>true|.str _,.non=>true
 |.int _,.int _=>true|.bl _,.bl _=>true|.str _,.str _=>true|.byt _,.byt _=>true
 |.int _,.str _=>true|.str _,.int _=>true|.bl _,.str _=>true|.str _,.bl _=>true
 |_,_=>false
noncomputable def rEq:R2:=fun x y H Q=>aIq x y=true/\Q (.bl (decide (x=y))) H
noncomputable def rNe:R2:=fun x y H Q=>aIq x y=true/\Q (.bl (!decide (x=y))) H
theorem OE{i j:Int}:decide (V.int i=V.int j)=(i==j):=by
 rw[U1];simp
theorem UR{i j:Bool}:decide (V.bl i=V.bl j)=(i==j):=by
 rw[U1];simp
theorem OT{i j:Str}:decide (V.str i=V.str j)=(i==j):=by
 rw[U1];simp
theorem PF{i j:Array UInt8}:decide (V.byt i=V.byt j)=(i.toList==j.toList):=by
 rw[U1];cases i;cases j;simp
section
variable{X:Cx}{a b c:Expr}{ta tb tc:TE}{pos:Pos}
theorem cJ{pins:List (Addr×Obj)}{Q:VK}{k k':Bool}(I:Inv X pins σ H s)(q:Q (.bl k) H)(e:k=k'):EP X pins σ Q (.bool k') s:=by
 subst e;exact⟨.bl k,H,I,rfl,q⟩
theorem op_eq:OpR X (compareOp .Eq) rEq:=by
 intro pins s σ H x y v u Q I rx ry h;obtain⟨hs,q⟩:=h;cases x with
 |non=>
  cases rx;cases y with
  |non=>cases ry;exact PySem.EqNone.eq_none_none (cJ I q (by simp))
  |bl j=>cases ry;exact PySem.EqNone.eq_none_bool (cJ I q (by simp))
  |int j=>obtain⟨t',rfl⟩:=ry;exact PySem.EqNone.eq_none_int (cJ I q (by simp))
  |str j=>obtain⟨t',rfl⟩:=ry;exact PySem.EqNone.eq_none_str (cJ I q (by simp))
  |_=>exact absurd (show false=true from hs) A8
 |bl i=>
  cases rx;cases y with
  |non=>cases ry;exact PySem.EqNone.eq_bool_none (cJ I q (by simp))
  |bl j=>cases ry;exact eq_bool (cJ I q UR)
  |str j=>obtain⟨t',rfl⟩:=ry;exact PySem.EqMixed.eq_bool_str (cJ I q (by simp))
  |_=>exact absurd (show false=true from hs) A8
 |int i=>
  obtain⟨t,rfl⟩:=rx;cases y with
  |non=>cases ry;exact PySem.EqNone.eq_int_none (cJ I q (by simp))
  |int j=>obtain⟨t',rfl⟩:=ry;exact eq_int (cJ I q OE)
  |str j=>obtain⟨t',rfl⟩:=ry;exact PySem.EqMixed.eq_int_str (cJ I q (by simp))
  |_=>exact absurd (show false=true from hs) A8
 |str i=>
  obtain⟨t,rfl⟩:=rx;cases y with
  |non=>cases ry;exact PySem.EqNone.eq_str_none (cJ I q (by simp))
  |bl j=>cases ry;exact PySem.EqMixed.eq_str_bool (cJ I q (by simp))
  |int j=>obtain⟨t',rfl⟩:=ry;exact PySem.EqMixed.eq_str_int (cJ I q (by simp))
  |str j=>obtain⟨t',rfl⟩:=ry;exact eq_str (cJ I q OT)
  |_=>exact absurd (show false=true from hs) A8
 |byt i=>
  obtain⟨t,rfl⟩:=rx;cases y with
  |byt j=>obtain⟨t',rfl⟩:=ry;exact PySem.W.eq_bytes (cJ I q PF)
  |_=>exact absurd (show false=true from hs) A8
 |_=>cases y<;>exact absurd (show false=true from hs) A8
theorem op_ne:OpR X (compareOp .NotEq) rNe:=by
 intro pins s σ H x y v u Q I rx ry h;obtain⟨hs,q⟩:=h;cases x with
 |non=>
  cases rx;cases y with
  |non=>cases ry;exact PySem.EqNone.ne_none_none (cJ I q (by simp))
  |bl j=>cases ry;exact PySem.EqNone.ne_none_bool (cJ I q (by simp))
  |int j=>obtain⟨t',rfl⟩:=ry;exact PySem.EqNone.ne_none_int (cJ I q (by simp))
  |str j=>obtain⟨t',rfl⟩:=ry;exact PySem.EqNone.ne_none_str (cJ I q (by simp))
  |_=>exact absurd (show false=true from hs) A8
 |bl i=>
  cases rx;cases y with
  |non=>cases ry;exact PySem.EqNone.ne_bool_none (cJ I q (by simp))
  |bl j=>cases ry;exact ne_bool (cJ I q (F6 not UR))
  |str j=>obtain⟨t',rfl⟩:=ry;exact PySem.EqMixed.ne_bool_str (cJ I q (by simp))
  |_=>exact absurd (show false=true from hs) A8
 |int i=>
  obtain⟨t,rfl⟩:=rx;cases y with
  |non=>cases ry;exact PySem.EqNone.ne_int_none (cJ I q (by simp))
  |int j=>obtain⟨t',rfl⟩:=ry;exact ne_int (cJ I q (F6 not OE))
  |str j=>obtain⟨t',rfl⟩:=ry;exact PySem.EqMixed.ne_int_str (cJ I q (by simp))
  |_=>exact absurd (show false=true from hs) A8
 |str i=>
  obtain⟨t,rfl⟩:=rx;cases y with
  |non=>cases ry;exact PySem.EqNone.ne_str_none (cJ I q (by simp))
  |bl j=>cases ry;exact PySem.EqMixed.ne_str_bool (cJ I q (by simp))
  |int j=>obtain⟨t',rfl⟩:=ry;exact PySem.EqMixed.ne_str_int (cJ I q (by simp))
  |str j=>obtain⟨t',rfl⟩:=ry;exact ne_str (cJ I q (F6 not OT))
  |_=>exact absurd (show false=true from hs) A8
 |byt i=>
  obtain⟨t,rfl⟩:=rx;cases y with
  |byt j=>obtain⟨t',rfl⟩:=ry;exact PySem.W.ne_bytes (cJ I q (F6 not PF))
  |_=>exact absurd (show false=true from hs) A8
 |_=>cases y<;>exact absurd (show false=true from hs) A8
theorem op_lt:OpR X (compareOp .Lt) (rI0 fun i j=>.bl (decide (i<j))):=aCt fun _ _ _ _ _ _ _ q=>lt_int q
theorem aHF:OpR X (compareOp .LtE) (rI0 fun i j=>.bl (decide (i<=j))):=aCt fun _ _ _ _ _ _ _ q=>le_int q
theorem aHq:OpR X (compareOp .Gt) (rI0 fun i j=>.bl (decide (j<i))):=aCt fun _ _ _ _ _ _ _ q=>gt_int q
theorem aHG:OpR X (compareOp .GtE) (rI0 fun i j=>.bl (decide (j<=i))):=aCt fun _ _ _ _ _ _ _ q=>ge_int q
theorem OpR.or{f:Value->Value->Sem Value}{r r':R2}(h:OpR X f r)(h':OpR X f r'):OpR X f (fun x y H Q=>r x y H Q\/r' x y H Q):=by
 intro pins s σ H x y v u Q I rx ry q;rcases q with q|q
 .exact h pins s σ H x y v u Q I rx ry q
 .exact h' pins s σ H x y v u Q I rx ry q
theorem aCc{op:CmpOp}{r:R2}(ho:OpR X (compareOp op) r)(ha:PE X a ta)(hb:PE X b tb)(hm:behindInMarks op b=false):PE X (.Compare a [op] [b] pos) (tOp r ta tb):=by
 intro pins s σ H Q I h;exact wpAny_Compare1 (aEN ha hb I h fun v u s2 x y H2 I2 rx ry q=>ho pins s2 σ H2 x y v u Q I2 rx ry q) hm
noncomputable def aDi(t:TE):TT:=fun σ H Q=>t σ H fun x H'=>∃k,x=.bl k/\Q k H'
theorem aBe{op:CmpOp}{r:R2}(ho:OpR X (compareOp op) r)(ha:PE X a ta)(hb:PE X b tb)(hm:behindInMarks op b=false):PT X (.Compare a [op] [b] pos) (aDi (tOp r ta tb)):=by
 intro pins s σ H Q I h
 refine wpAny_isTrue_Compare1 (thn (ha pins s σ H _ I h) fun v s1 ⟨x,H1,I1,r1,q1⟩=>thn (hb pins s1 σ H1 _ I1 q1) fun u s2 ⟨y,H2,I2,r2,q2⟩=>
  thn (ho pins s2 σ H2 x y v u _ I2 r1 r2 q2) fun c s3 ⟨z,H3,I3,r3,k,e,q3⟩=>?_) hm
 subst e;cases r3;exact O4 ⟨H3,I3,q3⟩
noncomputable def aAd(r r':R2)(ta tb tc:TE):TE:=fun σ H Q=>ta σ H fun x H1=>tb σ H1 fun y H2=>r x y H2 fun z H3=>∃k,z=.bl k /\
 (if k=true then tc σ H3 fun w' H4=>r' y w' H4 Q else Q (.bl false) H3)
theorem VL{op op':CmpOp}{r r':R2}(ho:OpR X (compareOp op) r)(ho':OpR X (compareOp op') r')(ha:PE X a ta)(hb:PE X b tb)(hc:PE X c tc)
 (hm:lastMarks [op,op'] [b,c]=false:=by with_unfolding_all rfl):PE X (.Compare a [op,op'] [b,c] pos) (aAd r r' ta tb tc):=by
 intro pins s σ H Q I h
 refine Compare_chain (thn (ha pins s σ H _ I h) fun v s1 ⟨x,H1,I1,r1,q1⟩=>chain_link (thn (hb pins s1 σ H1 _ I1 q1) fun u s2 ⟨y,H2,I2,r2,q2⟩=>
  thn (ho pins s2 σ H2 x y v u _ I2 r1 r2 q2) fun d s3 ⟨z,H3,I3,r3,k,e,q3⟩=>?_)) hm
 subst e;cases r3;refine O4 ?_;cases k with
 |false=>exact ite_ff ⟨.bl false,H3,I3,rfl,q3⟩
 |true=>exact ite_tt (chain_last (thn (hc pins s3 σ H3 _ I3 q3) fun w' s4 ⟨z',H4,I4,r4,q4⟩=>ho' pins s4 σ H4 y z' u w' Q I4 r2 r4 q4))
noncomputable def aBJ(K:Fg)(x:V)(H:Hp)(k:Bool):Prop:=
 match x with
 |.non=>k=false
 |.bl b=>k=b
 |.int i=>k=(i != 0)
 |.str y=>y.length<=sizeLine/\k=((y.length:Int) != 0)
 |.byt y=>y.size<=sizeLine/\k=((y.size:Int) != 0)
 |.ref p=>(∃xs,SqL K H p xs/\k=!xs.isEmpty)\/(∃xs,SqT K H p xs/\k=!xs.isEmpty)\/∃kvs,H p=some (.dK kvs)/\k=!kvs.isEmpty
 |_=>False
theorem LY{κ:Type}{kvs:List (κ×V)}{vs:List (κ×Value)}(r:KV kvs vs):(!vs.isEmpty)=!kvs.isEmpty:=by
 cases r<;>rfl
theorem zY{xs:List V}{its:List Value}(r:bE xs its):(!its.toArray.isEmpty)=!xs.isEmpty:=by
 cases r<;>simp
theorem wW:(sizeLine:Nat)<2 ^ 63:=by rw[E4];decide
theorem aEO:aJp X (fun x H Q=>∃k,aBJ X.K x H k/\Q k H):=by
 intro pins s σ H x v Q I rx h;obtain⟨k,e,q⟩:=h;have hl:=wW;have hs:sizeLine=16777216:=E4;cases x with
 |non=>
  cases rx;have e':k=false:=e;subst e';exact truthy_none ⟨H,I,q⟩
 |bl b=>
  cases rx;have e':k=b:=e;subst e';exact O4 ⟨H,I,q⟩
 |int i=>
  obtain⟨t,rfl⟩:=rx;have e':k=(i != 0):=e;subst e';exact PySem.P.truthy_int ⟨H,I,q⟩
 |str y=>
  obtain⟨t,rfl⟩:=rx;obtain⟨hy,e'⟩:y.length<=sizeLine/\k=((y.length:Int) != 0):=e;subst e';exact PySem.P.truthy_str (by omega) ⟨H,I.tok _,q⟩
 |byt y=>
  obtain⟨t,rfl⟩:=rx;obtain⟨hy,e'⟩:y.size<=sizeLine/\k=((y.size:Int) != 0):=e;subst e';exact PySem.W.truthy_bytes (by omega) ⟨H,I.tok _,q⟩
 |ref p=>
  cases rx;have e':(∃xs,SqL X.K H p xs/\k=!xs.isEmpty)\/(∃xs,SqT X.K H p xs/\k=!xs.isEmpty)\/∃kvs,H p=some (.dK kvs)/\k=!kvs.isEmpty:=e;rcases e' with⟨xs,hx,e'⟩|⟨xs,hx,e'⟩|⟨kvs,hx,e'⟩
  .subst e';obtain⟨its,r,pl,hz⟩:=I.list hx;have hlen:=r.length;exact wpAny_truthy_list pl.isList (by simp only[List.size_toArray];omega) ⟨H,I.tok _,by rw[zY r];exact q⟩
  .subst e';obtain⟨its,r,pl,hz⟩:=I.tuple hx;have hlen:=r.length;exact truthy_tuple pl (by simp only[List.size_toArray];omega) ⟨H,I.tok _,by rw[zY r];exact q⟩
  .subst e';obtain⟨hz,hS,vs,r,m⟩:kvs.length<=sizeLine/\(p==sysModules)=false/\∃vs,KV kvs vs/\s.heap.DictOf (dS X.prog X.w) p vs:=I.hok p _ hx;have hlen:kvs.length=vs.length:=A0e r;exact wpAny_truthy_dict hS m (by omega) ⟨H,I.tok _,by rw[LY r];exact q⟩
 |_=>exact(show False from e).elim
theorem XO(ha:PE X a ta)(he:∀whole,isTrue a X.env whole=(do let v <- whole;standAt a.pos;holding [v] (truthy v))):
 PT X a (fun σ H Q=>ta σ H fun x H'=>∃k,aBJ X.K x H' k/\Q k H'):=by
 intro pins s σ H Q I h;exact isTrue_plain (thn (ha pins s σ H _ I h) fun v s1 ⟨x,H1,I1,r1,q1⟩=>aEO pins s1 σ H1 x v Q I1 r1 q1) (he _)
theorem vals1{x:V}{us:List Value}(r:bE [x] us):∃u,us=[u]/\RelV x u:=by
 cases r with
 |cons r1 r2=>cases r2;exact⟨_,rfl,r1⟩
theorem vals2{x y:V}{us:List Value}(r:bE [x,y] us):∃u w',us=[u,w']/\RelV x u/\RelV y w':=by
 cases r with
 |cons r1 r2=>
  cases r2 with
  |cons r3 r4=>cases r4;exact⟨_,_,rfl,r1,r3⟩
theorem RS:fV X (.type "int") (fun xs H Q=>(∃i,xs=[.int i]/\Q (.int i) H)\/∃k,xs=[.bl k]/\Q (.int (if k then 1 else 0)) H):=by
 intro pins s σ H xs us Q I r h;rcases h with⟨i,rfl,q⟩|⟨k,rfl,q⟩
 .obtain⟨u,rfl,t,rfl⟩:=vals1 r;exact call_int_int ⟨.int i,H,I,⟨_,rfl⟩,q⟩
 .obtain⟨u,rfl,r1⟩:=vals1 r;cases r1;exact call_int_bool ⟨.int (if k then 1 else 0),H,I.tok _,⟨_,rfl⟩,q⟩
end
theorem CI.some_of{v:V}{o:Option Value}(r:CI (some v) o):∃u,o=some u/\RelV v u:=by
 cases o with
 |none=>exact(show False from r).elim
 |some u=>exact⟨u,rfl,r⟩
structure eE(k:Nat)(A:Around)(q:Bool:=true):Prop where
 hd:q=true->A.handled=none
 dp:A.depth+3*k+5<recursionLimit
 un:A.units+16*k+200<cLine
 gd:A.guards=some []
theorem eE.mono{j k:Nat}{q:Bool}(r:eE k A q)(h:j<=k):eE j A q:=⟨r.hd,by have:=r.dp;omega,by have:=r.un;omega,r.gd⟩
theorem eE.deeper{k:Nat}{q:Bool}(r:eE (k+1) A q)(env:Env):eE k (A.deeper env) q:=
 ⟨r.hd,by have:=r.dp;show A.depth+1+3*k+5<_;omega,by have:=r.un;show A.units+3+16*k+200<_;omega,r.gd⟩
theorem eE.depth{k:Nat}{q:Bool}(r:eE k A q):A.depth<recursionLimit:=by have:=r.dp;omega
theorem eE.units{k:Nat}{q:Bool}(r:eE k A q):A.units+64<cLine:=by have:=r.un;omega
noncomputable def RE:TA:=fun _ H Q=>Q [] H
noncomputable def sJ(ta:TE)(tr:TA):TA:=fun σ H Q=>ta σ H fun x H1=>tr σ H1 fun xs H2=>Q (x::xs) H2
section
variable{X:Cx}{e:Expr}{es:List Expr}{te:TE}{t:TA}{pos:Pos}
theorem zK:PA X [] RE:=fun _ _ _ _ H Q I h=>Calls.spliced_nil ⟨[],H,I,.nil,h⟩
theorem kD(ha:PE X e te)(hr:PA X es t)(hs:starEach (e::es) X.env=(false,eval e X.env)::starEach es X.env:=by rfl):PA X (e::es) (sJ te t):=by
 intro pos pins s σ H Q I h;rw[hs];show wpAny _ _ (spliced ((false,eval e X.env)::backTo pos (starEach es X.env))) _ _ s;refine Calls.spliced_cons (thn (ha pins s σ H _ I h) fun u s1 ⟨x,H1,I1,r1,q1⟩=>?_);exact thn (hr pos pins s1 σ H1 _ I1 q1) fun us s2 ⟨xs,H2,I2,r2,q2⟩=>⟨x::xs,H2,I2,.cons r1 r2,q2⟩
noncomputable def aDX(t:TA):TE:=fun σ H Q=>t σ H fun xs H1=>xs.length<=sizeLine/\∀p,H1 p=none->Q (.ref p) (upd H1 p (.tup xs))
noncomputable def aDR(t:TA):TE:=fun σ H Q=>t σ H fun xs H1=>xs.length<=sizeLine/\∀p,H1 p=none->Q (.ref p) (upd H1 p (.lst xs))
theorem UT{x1}(h:PA X es t):PE X (.Tuple es x1 pos) (aDX t):=by
 intro pins s σ H Q I hq;refine wpAny_Tuple_spliced (thn (h pos pins s σ H _ I hq) fun us s1 ⟨xs,H1,I1,r,z,q⟩=>⟨by rw[<- r.length];exact z,?_⟩);have hf:H1 s1.heap.objs.size=none:=I1.hok.fresh (A6 _);refine⟨.ref s1.heap.objs.size,upd H1 s1.heap.objs.size (.tup xs),I1.laid (t':=s1.toks) (fun b u e=>A4 _ e) (A6 _) ?_,rfl,q _ hf⟩;exact⟨z,us,r,⟨_,D1 _ rfl,rfl,_,rfl⟩⟩
theorem UP(h:PA X es t):PE X (.List es pos) (aDR t):=by
 intro pins s σ H Q I hq;refine wpAny_List_spliced (thn (h pos pins s σ H _ I hq) fun us s1 ⟨xs,H1,I1,r,z,q⟩=>⟨by rw[<- r.length];exact z,?_⟩);have hf:H1 s1.heap.objs.size=none:=I1.hok.fresh (A6 _);refine⟨.ref s1.heap.objs.size,upd H1 s1.heap.objs.size (.lst xs),I1.laid (t':=s1.toks) (fun b u e=>A4 _ e) (A6 _) ?_,rfl,q _ hf⟩;exact⟨z,us,0,r,D1 _ rfl⟩
end
noncomputable abbrev Sp:=List V->Hp->VK->XK->Prop
noncomputable abbrev CXT:=List Env->Hp->Shared->XK->Value->Shared->Prop
structure aCP(P:Program)(w:World)(K:Fg)(mg:Str->Option Value)(base:Heap)(A:Around)(outer:List Env)(s:Shared)(H:Hp):Prop where
 frames:A.frames=some outer
 mod:Mod K mg base
 bs:∀b o,base.get? b=some o->s.heap.get? b=some o/\H b=none
 bsz:base.objs.size<=s.heap.objs.size
 funs:s.heap.FunFrames base outer
 frf:∀b∈frs outer,H b=none
 hok:HOk P w H s.heap
 bare:AllBare s.gens
noncomputable def CE(outer:List Env)(P:Program)(w:World)(H:Hp)(s:Shared)(Q:VK)(u:Value)(s':Shared):Prop:=
 ∃v H',s'.os=s.os/\AllBare s'.gens/\Un (frs outer) [] H H' s.heap s'.heap/\HOk P w H' s'.heap/\RelV v u/\Q v H'
noncomputable def CR(CX:CXT)(outer:List Env)(P:Program)(w:World)(H:Hp)(s:Shared)(Q:VK)(E:XK)(r:Result)(s':Shared):Prop:=
 match r with
 |.ok (.ret u)=>CE outer P w H s Q u s'
 |.ok _=>False
 |.error e=>CX outer H s E e s'
structure oK(P:Program)(w:World)(K:Fg)(mg:Str->Option Value)(base:Heap)(CX:CXT)(k:Nat)(f:Addr)(fd:FuncData)(ps:List Str)(sp:Sp)(q:Bool:=true):Prop where
 len:∀vs H Q E,sp vs H Q E->vs.length=ps.length
 run:∀(A:Around)(outer:List Env)(s:Shared)(H:Hp)(args:Args)(us:List Value)(vs:List V)(Q:VK)(E:XK),eE k A q->aCP P w K mg base A outer s H->BindsTo s fd args (ps.zip us)->bE vs us->sp vs H Q E->
  codeAny (model P w) A (.call (.ref f) args) (CR CX outer P w H s Q E) s
theorem oK.mono{P:Program}{w:World}{mg:Str->Option Value}{base:Heap}{CX:CXT}{j k:Nat}{f:Addr}{fd:FuncData}{ps:List Str}{sp:Sp}{q:Bool}(F:oK P w K mg base CX j f fd ps sp q)(h:j<=k):
 oK P w K mg base CX k f fd ps sp q:=⟨F.len,fun A outer s H args us vs Q E hr=>F.run A outer s H args us vs Q E (hr.mono h)⟩
section
variable{X:Cx}{pins:List (Addr×Obj)}{σ:St}{H:Hp}{s s':Shared}
theorem Inv.env0(I:Inv X pins σ H s):aCP X.prog X.w X.K X.mg X.base X.A X.stack s H:=
 ⟨I.ok.frames,I.ok.mod,I.bs,F0 I.ok.bsz I.sz,I.stack,I.stkFree,I.hok,I.bare⟩
theorem Inv.after{Q:VK}{u:Value}(I:Inv X pins σ H s)(h:CE X.stack X.prog X.w H s Q u s'):EP X pins σ Q u s':=by
 obtain⟨v,H',os,bare,un,hok,r,q⟩:=h;obtain⟨hh,g,d,t,os'⟩:=s';obtain rfl:os'=s.os:=os;exact⟨v,H',I.call (h':=hh) (g':=g) (d':=d) (t':=t) (ch:=[]) un hok bare (fun b z=>absurd z (by simp)),r,q⟩
end
noncomputable def WO(sp:Sp)(dvs:List V)(E:XK)(t:TA):TE:=fun σ H Q=>t σ H fun vs H1=>sp (vs++dvs) H1 Q E
noncomputable def Binds(K:Fg)(fd:FuncData)(ps:List Str)(ds:List Value):Prop:=
 ∀(s:Shared)(us:List Value),K.In s.heap->(us++ds).length=ps.length->BindsTo s fd ⟨us,[]⟩ (ps.zip (us++ds))
theorem Binds.all{fd:FuncData}{ps:List Str}(h:∀us:List Value,us.length=ps.length->bindArgs fd ⟨us,[]⟩=pure (ps.zip us)):Binds K fd ps []:=fun s us _ hl=>by
 rw[C4]at hl ⊢;exact .of_eq (h us hl)
noncomputable def NI(CX:CXT)(X:Cx)(E:XK):Prop:=∀(pins:List (Addr×Obj))(σ:St)(H:Hp)(s:Shared)(e:Value)(s':Shared),Inv X pins σ H s->CX X.stack H s E e s'->X.xe e s'
section
variable{X:Cx}{CX:CXT}{k:Nat}{f C:Addr}{fd:FuncData}{ps:List Str}{sp:Sp}{dvs:List V}{ds:List Value}{E:XK}{x m:Str}{p pos apos:Pos}{e o:Expr}{es:List Expr}{ta:TE}{t:TA}
theorem aGO{pins:List (Addr×Obj)}{σ:St}{H:Hp}{s:Shared}{Q:VK}{us:List Value}{vs:List V}{q:Bool}(F:oK X.prog X.w X.K X.mg X.base CX k f fd ps sp q)(hr:eE k X.A q)(hb:Binds X.K fd ps ds)(hd:bE dvs ds)(hx:NI CX X E)
 (I:Inv X pins σ H s) (r:bE vs us) (h:sp (vs++dvs) H Q E):wpAny (model X.prog X.w) X.A (call (.ref f) us) (EP X pins σ Q) X.xe s:=by
 have r2:bE (vs++dvs) (us++ds):=r.append hd;have hl:(us++ds).length=ps.length:=by rw[<- r2.length];exact F.len _ _ _ _ h
 refine wpAny_call (A0i (F.run X.A X.stack s H ⟨us,[]⟩ (us++ds) (vs++dvs) Q E hr I.env0 (hb s us I.kIn hl) r2 h) fun r s' hq=>?_);cases r with
 |error e=>exact hx pins σ H s e s' I hq
 |ok fl=>
  cases fl with
  |ret u=>exact I.after hq
  |next=>exact False.elim hq
  |brk=>exact False.elim hq
  |cont=>exact False.elim hq
theorem OJ{q:Bool}(F:oK X.prog X.w X.K X.mg X.base CX k f fd ps sp q)(hr:eE k X.A q)(hg:Gl X x)(hm:X.mg x=some (.ref f))(hk:PySem.W.keepIn X.K (.ref f)=true)(hb:Binds X.K fd ps ds)(hd:bE dvs ds)(hx:NI CX X E)
 (ha:PA X (e::es) t) (hdb:(x==("__debug__":Str))=false:=by decide) (he:starEach (e::es) X.env=(false,eval e X.env)::starEach es X.env:=by rfl) (hpl:(backTo pos (starEach es X.env)).any (·.1)=false:=by rfl):
 PE X (.Call (.Name x p) (e::es) [] pos) (WO sp dvs E t):=by
 intro pins s σ H Q I h;refine Z6 (uE I hg hm ?_ hdb);refine PySem.W.callWith_K (h₀:=X.base) I.ok.mod.kin hk (thn (ha pos pins s σ H _ I h) fun us s1 ⟨vs,H1,I1,r,q⟩=>⟨I1.kIn,?_⟩) he hpl;exact aGO F hr hb hd hx I1 r q
end
structure aX(N P:List Str)(sc:Scope):Prop where
 kind:sc.kind=.function
 co:sc.isCoroutine=false
 gen:sc.isGenerator=false
 nd:N.Nodup
 pre:N.take P.length=P
 par:∀x∈P,sc.names.lookup x=some .local\/sc.names.lookup x=some .cell
 nofree:∀y∈sc.names,y.2≠.free
theorem DD{kindOf:Str->Option NameKind}{x:Str}:∀{binds:List (Str×Value)}{m:Str->Option Value},(∀v,(x,v)∉binds)->bindL kindOf binds m x=m x
 |[],_=>fun _=>rfl
 |(n,v)::r,m=>fun h=>by
  unfold bindL;rw[DD fun w hw=>h w (A9 _ hw)];split
  .have:x≠n:=by rintro rfl;exact h v B0
   simp[this]
  .rfl
theorem DE{kindOf:Str->Option NameKind}{x:Str}:∀{binds:List (Str×Value)}{m:Str->Option Value},(∀v,(x,v)∉binds)->bindC kindOf binds m x=m x
 |[],_=>fun _=>rfl
 |(n,v)::r,m=>fun h=>by
  unfold bindC;rw[DE fun w hw=>h w (A9 _ hw)];split
  .rfl
  .have:x≠n:=by rintro rfl;exact h v B0
   simp[this]
theorem DQ{kindOf:Str->Option NameKind}{x:Str}{v:Value}:∀{P:List Str}{vs:List Value}{i:Nat}{m:Str->Option Value},P.Nodup->P[i]?=some x->vs[i]?=some v->kindOf x=some .local->
 bindL kindOf (P.zip vs) m x=some v
 |[],_,_,_=>fun _ h _ _=>by simp at h
 |_::_,[],_,_=>fun _ _ h _=>by simp at h
 |p::P,w::vs,0,m=>fun nd h1 h2 hk=>by
  simp at h1 h2;subst h1;subst h2;show bindL kindOf ((p,w)::P.zip vs) m p=_;unfold bindL;rw[DD fun v hv=>(List.nodup_cons.mp nd).1 (List.of_mem_zip hv).1,A3 hk];simp
 |p::P,w::vs,i+1,m=>fun nd h1 h2 hk=>by
  show bindL kindOf ((p,w)::P.zip vs) m x=_;unfold bindL;exact DQ (i:=i) (List.nodup_cons.mp nd).2 (by simpa using h1) (by simpa using h2) hk
theorem EB{kindOf:Str->Option NameKind}{x:Str}{v:Value}:∀{P:List Str}{vs:List Value}{i:Nat}{m:Str->Option Value},P.Nodup->P[i]?=some x->vs[i]?=some v->kindOf x≠some .local->
 bindC kindOf (P.zip vs) m x=some v
 |[],_,_,_=>fun _ h _ _=>by simp at h
 |_::_,[],_,_=>fun _ _ h _=>by simp at h
 |p::P,w::vs,0,m=>fun nd h1 h2 hk=>by
  simp at h1 h2;subst h1;subst h2;show bindC kindOf ((p,w)::P.zip vs) m p=_;unfold bindC;rw[DE fun v hv=>(List.nodup_cons.mp nd).1 (List.of_mem_zip hv).1,A7 hk];simp
 |p::P,w::vs,i+1,m=>fun nd h1 h2 hk=>by
  show bindC kindOf ((p,w)::P.zip vs) m x=_;unfold bindC;exact EB (i:=i) (List.nodup_cons.mp nd).2 (by simpa using h1) (by simpa using h2) hk
noncomputable def start(N:List Str)(vs:List V):St:=vs.map some++List.replicate (N.length-vs.length) none
noncomputable def oO(CX:CXT)(P:Program)(w:World)(K:Fg)(mg:Str->Option Value)(base:Heap)(N:List Str)(qual:Str)(scope:Scope)(f:Addr)(cd:Value)(A:Around)(outer:List Env)(s:Shared)(H:Hp)(E:XK)(q:Bool:=true):Cx where
 prog:=P
 w:=w
 K:=K
 mg:=mg
 base:=base
 A:=A.deeper (envOfC qual scope s.heap.objs.size f cd)
 N:=N
 s₀:=s
 H₀:=H
 env:=envOfC qual scope s.heap.objs.size f cd
 outer:=outer
 stack:=envOfC qual scope s.heap.objs.size f cd::outer
 ex:=[]
 calm:=q
 fn:=fun _=>true
 pn:=[]
 xe:=fun e s'=>wpAny (model P w) (A.deeper (envOfC qual scope s.heap.objs.size f cd)) (leaving (envOfC qual scope s.heap.objs.size f cd) e) (fun _ s''=>CX outer H s E e s'') (fun e' s''=>CX outer H s E e' s'') s'
theorem KW{sc:Scope}{n:Nat}{x:Str}(h:sc.names.lookup x=some .cell):∃c,(cellsFrom n sc.names []).lookup x=some c:=by
 have q:=PySem.W.cellsFrom_some sc.names n [] (.inl h);exact Option.isSome_iff_exists.mp q
theorem QX{CX:CXT}{P:Program}{w:World}{K:Fg}{mg:Str->Option Value}{base:Heap}{N ps:List Str}{qual:Str}{scope:Scope}{f:Addr}{cd:Value}{A:Around}{outer:List Env}{s s1:Shared}{H:Hp}{E:XK}{us:List Value}{vs:List V}{q:Bool}
 (S:aX N ps scope) (hd:q=true->A.handled=none) (e0:aCP P w K mg base A outer s H) (hl:vs.length=ps.length) (r:bE vs us)
 (x:InCallC s s.heap.objs.size (bindL (envOfC qual scope s.heap.objs.size f cd).kindOf (ps.zip us) fun _=>none) (cellsFrom (s.heap.objs.size+1) scope.names []) (bindC (envOfC qual scope s.heap.objs.size f cd).kindOf (ps.zip us) fun _=>none) s1):
 Inv (oO CX P w K mg base N qual scope f cd A outer s H E q) [] (start N vs) H s1:=by
 have hpl:ps.length<=N.length:=by have:=F6 List.length S.pre;rw[O6]at this;omega
 obtain⟨h1,tk,rfl,hk⟩:=x.done;have noA:∀b:Addr,b∉(oO CX P w K mg base N qual scope f cd A outer s H E q).ex:=fun b z=>absurd (show b∈([]:List Addr)from z) (by simp)
 refine⟨⟨e0.mod,S.kind,rfl,rfl,A6 _,fun y z c h1 h2=>?_,fun y hy=>?_,fun y c _ h=>?_,hd,Around.frames_deeper e0.frames,.inr ⟨rfl,rfl⟩,fun b z=>absurd z (noA b),e0.bs,e0.bsz,fun b _ _=>noA b,fun b z=>absurd z (noA b),e0.funs,e0.frf⟩,
  rfl,e0.bare,Un.kept hk,⟨_,x.toInCall.ns,fun i y v h1 h2 h3=>?_⟩,fun y c h=>⟨_,x.cell y c h⟩,e0.hok.fresh (A6 _),fun y c h=>?_,fun p hp=>absurd (show p∈([]:List (Addr×Obj))from hp) (by simp),e0.hok.kept hk,?_⟩
 .exact name_of_addr x.apart (F4 h1) (F4 h2)
 .have hy:scope.names.lookup y=some .cell\/scope.names.lookup y=some .free:=hy;rcases hy with hy|hy
  .exact KW hy
  .exact absurd rfl (S.nofree _ (F4 hy))
 .exact Z3 (x.above y c (F4 h))
 .have hi:i<vs.length:=by
   unfold start at h2;by_cases hi:i<vs.length
   .exact hi
   .rw[B2 (by simpa using hi)]at h2;rw[Z1]at h2;split at h2<;>cases h2
  have ha:vs[i]?=some v:=by
   unfold start at h2;rw[J7 (by simpa using hi),C8]at h2;cases e:vs[i]? with
   |none=>rw[e]at h2;cases h2
   |some a=>rw[e]at h2;cases h2;rfl
  obtain⟨u,hu,rv⟩:=r.get ha
  have hp:ps[i]?=some y:=by
   rw[<- S.pre,Y6 (by omega)];exact h1
  have ndP:ps.Nodup:=by rw[<- S.pre];exact S.nd.sublist (List.take_sublist _ _)
  refine⟨u,rv,?_⟩;rcases S.par y (L7 hp)with k|k
  .exact .inl ⟨k,DQ ndP hp hu k⟩
  .obtain⟨c,e⟩:=KW (n:=s.heap.objs.size+1) k;refine .inr ⟨.inl k,c,e,?_⟩;have q:=x.cell y c e;rw[EB ndP hp hu (by show scope.names.lookup y≠_;rw[k];decide)]at q;exact q
 .exact e0.hok.fresh (Z3 (x.above y c (F4 h)))
 .unfold start;show _=N.length;rw[B4,A2,List.length_replicate];omega
theorem aDJ{CX:CXT}{P:Program}{w:World}{K:Fg}{mg:Str->Option Value}{base:Heap}{k:Nat}{f:Addr}{name qual:Str}{params:Arguments}{body:List Stmt}{scope:Scope}{dV kV doc pm cdv ct oc:Value}{an od:Option Addr}
 {osl:Array (Option Value)} {N ps:List Str} {sp:Sp} {q:Bool} (lk:K.lookup f=some ⟨oc,od,.func (PySem.W.fnOf name qual params body scope dV kV doc pm an cdv ct),osl⟩) (hcd:PySem.W.codeIn K cdv qual=true) (S:aX N ps scope)
 (len:∀vs H Q E,sp vs H Q E->vs.length=ps.length)
 (hbody:∀(A:Around)(outer:List Env)(s:Shared)(H:Hp)(vs:List V)(Q:VK)(E:XK),eE k (A.deeper (envOfC qual scope s.heap.objs.size f cdv)) q->sp vs H Q E->
  ∃t,PSs (oO CX P w K mg base N qual scope f cdv A outer s H E q) body t/\t { nx:=fun _ H'=>Q .non H',rt:=Q } (start N vs) H):
 oK P w K mg base CX (k+1) f (PySem.W.fnOf name qual params body scope dV kV doc pm an cdv ct) ps sp q:=by
 refine⟨len,fun A outer s H args us vs Q E hr e0 hb r hsp=>?_⟩;have hl:=len _ _ _ _ hsp;have KX:K.In s.heap:=e0.mod.kin.keeps fun b o e=>(e0.bs b o e).1;have lim:s.heap.NoLimit:=e0.mod.nolimit.keeps fun b o e=>(e0.bs b o e).1
 have hkind:∀y∈ps.zip us,scope.names.lookup y.1=some .local\/(scope.names.lookup y.1=some .cell/\((cellsFrom (s.heap.objs.size+1) scope.names []).lookup y.1).isSome=true):=fun⟨n,v⟩ hy=>by
  rcases S.par n (List.of_mem_zip hy).1 with q|q
  .exact .inl q
  .exact .inr ⟨q,PySem.W.cellsFrom_some _ _ _ (.inl q)⟩
 refine codeAny_call_function hr.depth (KX _ _ lk) rfl S.co S.gen rfl (PySem.W.codeRec_of KX hcd) (hb _ _ _ _ ?_);refine wpAny_newFunctionEnv_cells S.kind hkind fun env he s1 x=>?_;subst he;refine⟨lim.keeps x.toInCall.keep,codeAny_func ?_⟩;obtain⟨t,ht,hq⟩:=hbody A outer s H vs Q E (hr.deeper _) hsp;have I:Inv (oO CX P w K mg base N qual scope f cdv A outer s H E q) [] (start N vs) H s1:=QX S hr.hd e0 hl r x;refine E1 (ht [] s1 (start N vs) H _ I hq) (fun fl s' hs=>?_) fun e s' hs=>hs
 have fin:∀{σ':St}{H':Hp}{v:V}{u:Value},Inv (oO CX P w K mg base N qual scope f cdv A outer s H E q) [] σ' H' s'->RelV v u->Q v H'->CE outer P w H s Q u s':=
  fun{σ' H' v u} J rv q=>⟨v,H',J.os,J.bare,J.base,J.hok,rv,q⟩
 cases fl with
 |ret u=>
  obtain⟨v,σ',H',J,rv,q⟩:=hs;exact fin J rv q
 |next=>
  obtain⟨σ',H',J,q⟩:=hs;exact fin (v:=V.non) (u:=Value.none) J rfl q
 |brk=>
  obtain⟨_,_,_,q⟩:=hs;exact False.elim q
 |cont=>
  obtain⟨_,_,_,q⟩:=hs;exact False.elim q
section
variable{X:Cx}{x:Str}{p pos:Pos}{e:Expr}{es:List Expr}{t:TA}{id T:String}{r:List V->Hp->VK->Prop}
noncomputable def tCB(r:List V->Hp->VK->Prop)(t:TA):TE:=fun σ H Q=>t σ H fun vs H1=>r vs H1 Q
theorem uK(hc:fV X (.builtin id) r)(hg:Gl X x)(hm:X.mg x=none)(hv:bootBuiltins x=some (.builtin id))(ha:PA X (e::es) t)(hn:x≠"__name__":=by decide)(hdb:(x==("__debug__":Str))=false:=by decide)
 (he:starEach (e::es) X.env=(false,eval e X.env)::starEach es X.env:=by rfl) (hpl:(backTo pos (starEach es X.env)).any (·.1)=false:=by rfl):PE X (.Call (.Name x p) (e::es) [] pos) (tCB r t):=by
 intro pins s σ H Q I h;refine Z6 (mV I hg hm hv ?_ hn hdb);exact PyProof.Rows.callWith_builtin1 (thn (ha pos pins s σ H _ I h) fun us s1 ⟨vs,H1,I1,r1,q1⟩=>hc pins s1 σ H1 vs us Q I1 r1 q1) he hpl
theorem SZ(hc:fV X (.type T) r)(hg:Gl X x)(hm:X.mg x=none)(hv:bootBuiltins x=some (.type T))(ha:PA X (e::es) t)(hn:x≠"__name__":=by decide)(hdb:(x==("__debug__":Str))=false:=by decide)
 (he:starEach (e::es) X.env=(false,eval e X.env)::starEach es X.env:=by rfl) (hpl:(backTo pos (starEach es X.env)).any (·.1)=false:=by rfl):PE X (.Call (.Name x p) (e::es) [] pos) (tCB r t):=by
 intro pins s σ H Q I h;refine Z6 (mV I hg hm hv ?_ hn hdb);exact F9 (thn (ha pos pins s σ H _ I h) fun us s1 ⟨vs,H1,I1,r1,q1⟩=>hc pins s1 σ H1 vs us Q I1 r1 q1) he hpl
end
end L2
namespace HT
open PySem PyProof.Rows
noncomputable def lexLt:List Int->List Int->Bool
 |[],[]=>false
 |[],_::_=>true
 |_::_,[]=>false
 |x::xs,y::ys=>if x=y then lexLt xs ys else decide (x<y)
theorem lexLt_cons(x y:Int)(xs ys:List Int):lexLt (x::xs) (y::ys)=if x=y then lexLt xs ys else decide (x<y):=rfl
theorem CM:lexLt [] []=false:=rfl
theorem BA(y:Int)(ys:List Int):lexLt [] (y::ys)=true:=rfl
theorem AG(x:Int)(xs:List Int):lexLt (x::xs) []=false:=rfl
theorem ZZ(A:Around)(s:Shared)(a:Int)(t:Tok)(c:Int)(u:Tok):∃e,SeqAt.EqAt A s (.int a t) (.int c u) e/\(e=true↔a=c):=
 ⟨(a==c),SeqAt.EqAt.int_int a t c u,by simp⟩
theorem rcLt_int(A:Around)(s:Shared)(a:Int)(t:Tok)(c:Int)(u:Tok)(prog:Program)(w:World)(E:Value->Shared->Prop)(Q:Value->Shared->Prop)(h:Q (.bool (decide (a<c))) s):
 wpAny (model prog w) A (richCompare .Lt (.int a t) (.int c u)) Q E s:=
 (PyProof.Rows.lt_int h:wpAny (model prog w) A (compareOp .Lt (.int a t) (.int c u)) Q E s)
section
open PySem.SeqAt
open PySem.AutoSeq1 (wpAny_loadPart')
open PySem.MeetsSeq PySem.MeetsSeq2 PySem.MeetsSeq3
theorem CP(l b:Addr)(items items2:Array Value)(n n2:Nat)(dd dd2:Option Addr)(sl sl2:Array (Option Value))(ns ms:List Int)(hi:IntsAre items.toList ns)(hj:IntsAre items2.toList ms):
 Meets (Builtin.«tuple.__lt__» ⟨[.ref l,.ref b],[]⟩)
  (fun _ R s=>s.heap.get? l=some { cls:=.type "tuple",dict:=dd,data:=.seq items n,slots:=sl }/\s.heap.get? b=some { cls:=.type "tuple",dict:=dd2,data:=.seq items2 n2,slots:=sl2 } /\
   R (.ok (.ret (.bool (lexLt ns ms)))) s):=
 .of_wp fun prog w A R s h=>by
  obtain⟨hp,g,d,tk,os⟩:=s;obtain⟨hl,hb,h⟩:=h;have f2:=AutoSeq1.sub_tuple_tuple;have z1:items.size=ns.length:=by rw[<- hi.length];simp
  have z2:items2.size=ms.length:=by rw[<- hj.length];simp
  wp_walk using S8 hl,S8 hb,wpAny_forIn_list _ (fun rest b s'=>b.1=none/\s'=⟨hp,g,d,tk,os⟩/\∃(vs ws:List Value)(ns' ms':List Int),rest=vs.zip ws /\
   IntsAre vs ns'/\IntsAre ws ms'/\ns'.length+items2.size=ms'.length+items.size/\R (.ok (.ret (.bool (lexLt ns' ms')))) ⟨hp,g,d,tk,os⟩) _
  case turn=>
   rintro⟨y,x⟩ rest b s' ⟨hb',rfl,vs,ws,ns',ms',hz,hvi,hwi,hlen,hR⟩;cases hvi with
   |nil=>rw[List.zip_nil_left]at hz;cases hz
   |cons a t hvi'=>
    cases hwi with
    |nil=>rw[List.zip_nil_right]at hz;cases hz
    |cons c u hwi'=>
     rw[Y9]at hz;injection hz with hyx hrest
     injection hyx with hy hx
     subst hy hx;rw[lexLt_cons]at hR;simp only[List.length_cons]at hlen;obtain⟨e,he,hiff⟩:=ZZ A.in1 ⟨hp,g,d,tk,os⟩ a t c u;refine A1 (he prog w _ _ ?_);cases e with
     |true=>
      rw[A3 (hiff.mp rfl)]at hR
      wp_walk
      exact⟨rfl,rfl,_,_,_,_,hrest,hvi',hwi',by omega,hR⟩
     |false=>
      rw[A7 (fun q=>absurd (hiff.mpr q) A8)]at hR;have hri:=rcLt_int A.in1 ⟨hp,g,d,tk,os⟩ a t c u prog w
      wp_walk using hri
      exact⟨_,rfl,by simpa using hR⟩
  case fin=>
   rintro⟨b1,b2⟩ s' ⟨hb',rfl,vs,ws,ns',ms',hz,hvi,hwi,hlen,hR⟩;simp only at hb';subst hb'
   have hv:lexLt ns' ms'=decide (items.size<items2.size):=by
    cases hvi with
    |nil=>
     cases hwi with
     |nil=>
      simp only[List.length_nil]at hlen;rw[CM];exact(C1 (by omega)).symm
     |cons c u hw=>
      simp only[List.length_nil,List.length_cons]at hlen;rw[BA];exact(B1 (by omega)).symm
    |cons a t hv=>
     cases hwi with
     |nil=>
      simp only[List.length_nil,List.length_cons]at hlen;rw[AG];exact(C1 (by omega)).symm
     |cons c u hw=>
      rw[Y9]at hz;cases hz
   rw[hv]at hR
   wp_walk
   exact⟨_,rfl,by simpa[Builtin.Tuple.tupleCompareSizes]using hR⟩
  case h=>
   exact⟨rfl,rfl,items.toList,items2.toList,ns,ms,rfl,hi,hj,by omega,h⟩
end
section
variable{prog:Program}{w:World}{A:Around}{E:Value->Shared->Prop}{s:Shared}
theorem lt_tupInts{l b:Addr}{items items2:Array Value}{ns ms:List Int}{Q:Value->Shared->Prop}(hl:IsTup s.heap l items)(hb:IsTup s.heap b items2)(hi:IntsAre items.toList ns)(hj:IntsAre items2.toList ms)
 (hu:A.units<cLine) (h:Q (.bool (lexLt ns ms)) s):wpAny (model prog w) A (compareOp .Lt (.ref l) (.ref b)) Q E s:=by
 obtain⟨⟨cls,dd,data,sl⟩,ho,hc,n,hd⟩:=id hl;obtain⟨⟨cls2,dd2,data2,sl2⟩,ho2,hc2,n2,hd2⟩:=id hb;simp only at hc hd hc2 hd2;subst hc hd hc2 hd2
 exact richCompare_meets_room (op:=.Lt) ⟨_,ho,rfl⟩ ⟨_,ho2,rfl⟩ PySem.F.slot_tuple_lt PySem.F.entry_tuple_lt (PySem.F.args_tuple_lt_2 _ _) (CP l b items items2 n n2 dd dd2 sl sl2 ns ms hi hj)
  ⟨ho,ho2,show Value.bool (lexLt ns ms)≠Value.notImplemented/\Q (.bool (lexLt ns ms)) s from⟨(fun x=>nomatch x),h⟩⟩ hu
theorem cat_tup{t b:Addr}{vs ws:List Value}{Q:Value->Shared->Prop}(ht:IsTup s.heap t vs.toArray)(hb:IsTup s.heap b ws.toArray)(hv:vs≠[])
 (h1:ws=[]->Q (.ref t) s) (h2:ws≠[]->Q (.ref s.heap.objs.size) { s with heap:=s.heap.push { cls:=.type "tuple",data:=.seq (vs++ws).toArray } })
 (hsz:vs.length+ws.length<=sizeLine):wpAny (model prog w) A (binaryOp .Add (.ref t) (.ref b)) Q E s:=by
 obtain⟨⟨cls,dd,data,sl⟩,ho,hc,n,hd⟩:=id ht;obtain⟨⟨cls2,dd2,data2,sl2⟩,ho2,hc2,n2,hd2⟩:=id hb;simp only at hc hd hc2 hd2;subst hc hd hc2 hd2;have e:vs.toArray++ws.toArray=(vs++ws).toArray:=by simp
 by_cases hw:ws=[]
 .exact concat_meets ⟨_,ho,rfl⟩ ⟨_,ho2,rfl⟩ noFill_tuple_add seq_tuple_add PySem.F.slot_tuple_add PySem.F.entry_tuple_add (PySem.F.args_tuple_add_2 _ _)
   (tuple_addW1 t b vs.toArray ws.toArray n n2 dd dd2 sl sl2 (by simpa using hv) (by simp[hw])) ⟨ho,ho2,h1 hw⟩
 .refine concat_meets ⟨_,ho,rfl⟩ ⟨_,ho2,rfl⟩ noFill_tuple_add seq_tuple_add PySem.F.slot_tuple_add PySem.F.entry_tuple_add (PySem.F.args_tuple_add_2 _ _)
   (tuple_addW2 t b vs.toArray ws.toArray n n2 dd dd2 sl sl2 (by simpa using hv) (by simpa using hw) (by rw[C5,C5];exact hsz)) ⟨ho,ho2,?_⟩
  rw[e];exact h2 hw
noncomputable def sIx(n d:Nat):Option Int->Nat
 |none=>d
 |some v=>if v<0 then(v+(n:Int)).toNat else min v.toNat n
theorem sIx_none(n d:Nat):sIx n d none=d:=rfl
theorem sIx_nat(n d k:Nat):sIx n d (some (k:Int))=min k n:=by
 show(if (k:Int)<0 then((k:Int)+(n:Int)).toNat else min (k:Int).toNat n)=min k n;rw[A7 (by omega),I0]
theorem aFz(n d:Nat)(hd:d<=n)(o:Option Int):sIx n d o<=n:=by
 cases o with
 |none=>exact hd
 |some v=>
  show(if v<0 then(v+(n:Int)).toNat else min v.toNat n)<=n;by_cases hv:v<0
  .rw[A3 hv];omega
  .rw[A7 hv];exact Nat.min_le_right _ _
theorem OS(v:Int)(n d:Nat):(if v<0 then max (v+(n:Int)) 0 else min v (n:Int))=((sIx n d (some v):Nat):Int):=by
 show(if v<0 then max (v+(n:Int)) 0 else min v (n:Int))=(((if v<0 then(v+(n:Int)).toNat else min v.toNat n):Nat):Int);by_cases hv:v<0
 .simp only[if_pos hv];omega
 .simp only[if_neg hv];omega
theorem MJ(lo hi:Option Int)(n:Nat):Builtin.Slice.sliceAdjust lo hi 1 (n:Int)=(((sIx n 0 lo:Nat):Int),((sIx n n hi:Nat):Int)):=by
 have h1:¬((1:Int)<0):=by omega
 unfold Builtin.Slice.sliceAdjust;simp only[h1,if_false];refine Prod.ext ?_ ?_
 .cases lo with
  |none=>rfl
  |some v=>exact OS v n 0
 .cases hi with
  |none=>rfl
  |some v=>exact OS v n n
theorem NB(i j:Nat):Builtin.Slice.slicePlaces (i:Int) (j:Int) 1=j-i:=by
 unfold Builtin.Slice.slicePlaces;have h1:(1:Int) > 0:=by omega
 simp only[h1,if_true,Int.ediv_one];split<;>omega
theorem tH{v:Value}{o:Option Int}{Q:Option Int->Shared->Prop}(p:IsPart v o)(h:Q o s):wpAny (model prog w) A (Builtin.Slice.slicePartIndex v) Q E s:=by
 cases p with
 |none=>exact slicePart_none h
 |int i t=>exact slicePart_int h
theorem nJ{sl:Addr}{vl vu:Value}{lo hi:Option Int}{n:Nat}{Q:Int×Int×Nat->Shared->Prop}(hs:s.heap.IsSliceOf sl vl vu .none)(pl:IsPart vl lo)(pu:IsPart vu hi)
 (h:Q (((sIx n 0 lo:Nat):Int),1,sIx n n hi-sIx n 0 lo) s):wpAny (model prog w) A (Builtin.Slice.sliceApplied (.ref sl) (pure (n:Int))) Q E s:=by
 obtain⟨os,hos,hcs,hds⟩:=id hs;unfold Builtin.Slice.sliceApplied Builtin.Slice.sliceFields;refine A1 (A1 (J8 hos hds (x:=vl) rfl (A1 (J8 hos hds (x:=vu) rfl (A1 (J8 hos hds (x:=.none) rfl (B5 ?_)))))));refine A1 (slicePart_none ?_);show wpAny _ _ (if ((1:Int)==0)=true then _ else _) _ _ s;rw[A7 (by decide)];refine A1 (tH pl (A1 (tH pu (A1 (B5 ?_)))));show wpAny _ _ (match Builtin.Slice.sliceAdjust lo hi 1 (n:Int)with|(lo,hi)=>pure (lo,(1:Int),Builtin.Slice.slicePlaces lo hi 1)) _ _ s;rw[MJ lo hi n];show wpAny _ _ (pure (((sIx n 0 lo:Nat):Int),(1:Int),Builtin.Slice.slicePlaces ((sIx n 0 lo:Nat):Int) ((sIx n n hi:Nat):Int) 1)) _ _ s;rw[NB];exact B5 h
theorem ZH(xs:Array Value)(i k:Nat):((List.range k).filterMap fun(m:Nat)=>xs[((i:Int)+(m:Int)*1).toNat]?).toArray=((xs.toList.drop i).take k).toArray:=by
 have e:(fun(m:Nat)=>xs[((i:Int)+(m:Int)*1).toNat]?)=fun m=>xs[i+m]?:=by
  funext m;have:((i:Int)+(m:Int)*1).toNat=i+m:=by omega
  rw[this]
 rw[e];have:=pick_run xs i k;rw[List.filterMap_map]at this;have e2:((fun x=>xs[x]?) ∘ fun x=>i+x)=fun m=>xs[i+m]?:=rfl;rw[e2]at this;rw[this]
theorem getItem_tuple_cut{t sl:Addr}{items:Array Value}{vl vu:Value}{lo hi:Option Int}{Q:Value->Shared->Prop}(ht:IsTup s.heap t items)(hs:s.heap.IsSliceOf sl vl vu .none)(pl:IsPart vl lo)(pu:IsPart vu hi)
 (hw:¬(sIx items.size 0 lo=0/\sIx items.size items.size hi=items.size))
 (h:Q (.ref s.heap.objs.size) { s with heap:=s.heap.push { cls:=.type "tuple",data:=.seq ((items.toList.drop (sIx items.size 0 lo)).take (sIx items.size items.size hi-sIx items.size 0 lo)).toArray } })
 (hsz:items.size<=sizeLine):wpAny (model prog w) A (getItem (.ref t) (.ref sl)) Q E s:=by
 have htake:sizeOk (.seq ((items.toList.drop (sIx items.size 0 lo)).take (sIx items.size items.size hi-sIx items.size 0 lo)).toArray):=by
  show((items.toList.drop (sIx items.size 0 lo)).take (sIx items.size items.size hi-sIx items.size 0 lo)).toArray.size<=sizeLine;rw[C5,O6,Z7,A0c];omega
 have hj:sIx items.size items.size hi<=items.size:=aFz _ _ (A6 _) hi;obtain⟨os,hos,hcs,hds⟩:=id hs;have hTs:s.TypeIs (.ref sl) "slice":=⟨os,hos,hcs⟩;unfold getItem
 try with_reducible refine J1 ?_
 first|refine A1 (B5 ?_)|skip
 refine A1 (wpAny_sequenceKey ht.typeIs (by decide) ?_)
 refine A1 (U2 (name:=Str.ofString "__getitem__") ht.typeIs J2
  (S5 J2 ht.typeIs entry_tuple_getitem ?_ (args_tuple_getitem _ _)))
 show wpAny _ _ (Builtin.Tuple.tupleItemsOf (.ref t) >>= _) _ _ s;refine A1 (tupleItemsOf_ ht ?_);refine A1 (wpAny_typeOf hTs ?_);rw[A3 (by decide)];refine A1 (nJ hs pl pu ?_)
 have hno:¬((((sIx items.size 0 lo:Nat):Int)==0&&(1:Int)==1&&(sIx items.size items.size hi-sIx items.size 0 lo)==items.size)=true):=by
  intro q;rw[B3,B3]at q;have q1:((sIx items.size 0 lo:Nat):Int)=0:=eq_of_beq q.1.1;have q2:sIx items.size items.size hi-sIx items.size 0 lo=items.size:=eq_of_beq q.2;exact hw ⟨by omega,by omega⟩
 show wpAny _ _ (if (((sIx items.size 0 lo:Nat):Int)==0&&(1:Int)==1&&(sIx items.size items.size hi-sIx items.size 0 lo)==items.size)=true then _ else _) _ _ s;rw[A7 hno,ZH]
 first
  |exact A1 (m:=Builtin.Tuple.tupleExact _) (E2 (B5 ⟨_,rfl,B5 h⟩) htake)
  |exact A1 (m:=Builtin.Tuple.tupleExact _) (E2 (A1 (B5 (B5 ⟨_,rfl,B5 h⟩))) htake)
  |exact A1 (A1 (m:=Builtin.Tuple.tupleExact _) (E2 (B5 (B5 ⟨_,rfl,B5 h⟩)) htake))
  |exact A1 (A1 (m:=Builtin.Tuple.tupleExact _) (E2 (B5 ⟨_,rfl,B5 h⟩) htake))
end
end HT
namespace L2
variable{H:Hp}{σ:St}{s:Shared}{pos:Pos}
open PySem PySem.Spec PyProof.Rows
noncomputable abbrev TO:=St->Hp->(Option Int->Hp->Prop)->Prop
noncomputable def PO(X:Cx)(e:Option Expr)(t:TO):Prop:=
 ∀(pins:List (Addr×Obj))(s:Shared)(σ:St)(H:Hp)(Q:Option Int->Hp->Prop),Inv X pins σ H s->t σ H Q->
  wpAny (model X.prog X.w) X.A (evalPart e X.env) (fun u s'=>∃o H',Inv X pins σ H' s'/\IsPart u o/\Q o H') X.xe s
noncomputable def QP:TO:=fun _ H Q=>Q none H
noncomputable def aDC(t:TE):TO:=fun σ H Q=>t σ H fun x H1=>∃i,x=.int i/\Q (some i) H1
section
variable{X:Cx}{e:Expr}{te:TE}{lo hi:Option Expr}{tl th:TO}{pos p2:Pos}
theorem aCI:PO X none QP:=by
 intro pins s σ H Q I h;rw[evalPart_none];exact B5 ⟨none,H,I,.none,h⟩
theorem aCZ(h:PE X e te):PO X (some e) (aDC te):=by
 intro pins s σ H Q I hw;rw[evalPart_some];refine thn (h pins s σ H _ I hw) fun u s1 ⟨x,H1,I1,r1,q1⟩=>?_;obtain⟨i,rfl,q⟩:=q1;obtain⟨t,rfl⟩:=r1;exact⟨some i,H1,I1,.int i t,q⟩
noncomputable def SlR(X:Cx)(r:V->Option Int->Option Int->Hp->VK->Prop):Prop:=
 ∀(pins:List (Addr×Obj))(s:Shared)(σ:St)(H:Hp)(x:V)(v vl vu:Value)(lo hi:Option Int)(sl:Addr)(Q:VK),Inv X pins σ H s->RelV x v->s.heap.IsSliceOf sl vl vu .none->IsPart vl lo->IsPart vu hi->r x lo hi H Q->
  ∃T id,typeLookup (.type T) "__getitem__"=pure (some (.builtin id))/\s.TypeIs v T/\wpAny (model X.prog X.w) X.A (getItem v (.ref sl)) (EP X pins σ Q) X.xe s
theorem SlR.or{r r':V->Option Int->Option Int->Hp->VK->Prop}(h:SlR X r)(h':SlR X r'):SlR X (fun x lo hi H Q=>r x lo hi H Q\/r' x lo hi H Q):=by
 intro pins s σ H x v vl vu lo hi sl Q I rx hs pl pu q;rcases q with q|q
 .exact h pins s σ H x v vl vu lo hi sl Q I rx hs pl pu q
 .exact h' pins s σ H x v vl vu lo hi sl Q I rx hs pl pu q
noncomputable def tSl(r:V->Option Int->Option Int->Hp->VK->Prop)(te:TE)(tl th:TO):TE:=fun σ H Q=>te σ H fun x H1=>tl σ H1 fun l H2=>th σ H2 fun u H3=>r x l u H3 Q
theorem XQ{r:V->Option Int->Option Int->Hp->VK->Prop}(hr:SlR X r)(he:PE X e te)(hl:PO X lo tl)(hu:PO X hi th):PE X (.Subscript e (.Slice lo hi none p2) pos) (tSl r te tl th):=by
 intro pins s σ H Q I h;refine Subscript_ (thn (he pins s σ H _ I h) fun v s1 ⟨x,H1,I1,r1,q1⟩=>?_);refine wpAny_Slice (thn (hl pins s1 σ H1 _ I1 q1) fun vl s2 ⟨l,H2,I2,pl,q2⟩=>thn (hu pins s2 σ H2 _ I2 q2) fun vu s3 ⟨u,H3,I3,pu,q3⟩=>?_);rw[evalPart_none];refine B5 ?_;have I4:Inv X pins σ H3 { s3 with heap:=s3.heap.push { cls:=.type "slice",data:=.fields #[vl,vu,.none] } }:=I3.kept (t':=s3.toks) fun b ob q=>A4 _ q;obtain⟨T,id,hT,ht,hg⟩:=hr pins { s3 with heap:=s3.heap.push { cls:=.type "slice",data:=.fields #[vl,vu,.none] } } σ H3 x v vl vu l u s3.heap.objs.size Q I4 r1 (Heap.IsSliceOf.new ..) pl pu q3;show wpAny (model X.prog X.w) X.A (subscriptTail e (.Slice lo hi none p2) v (.ref s3.heap.objs.size)) (EP X pins σ Q) X.xe { s3 with heap:=s3.heap.push { cls:=.type "slice",data:=.fields #[vl,vu,.none] } };exact tail_any (ops:=[.ref s3.heap.objs.size,v]) ht hT hg (by with_unfolding_all rfl)
noncomputable def vP(xs:List V)(lo hi:Option Int):List V:=(xs.drop (HT.sIx xs.length 0 lo)).take (HT.sIx xs.length xs.length hi-HT.sIx xs.length 0 lo)
theorem wX(xs:List V)(lo hi:Option Int):(vP xs lo hi).length<=xs.length:=by
 unfold vP;rw[O6,Z7];omega
noncomputable def aHJ(K:Fg):V->Option Int->Option Int->Hp->VK->Prop:=fun x lo hi H Q=>∃a xs,x=.ref a/\SqT K H a xs /\
 ¬(HT.sIx xs.length 0 lo=0/\HT.sIx xs.length xs.length hi=xs.length)/\∀p,H p=none->Q (.ref p) (upd H p (.tup (vP xs lo hi)))
theorem sl_tup:SlR X (aHJ X.K):=by
 intro pins s σ H x v vl vu lo hi sl Q I rx hs pl pu h;obtain⟨a,xs,rfl,hx,hw,q⟩:=h;cases rx;obtain⟨its,r,ht,hz⟩:=I.tuple hx;have hlen:its.toArray.size=xs.length:=by rw[C5];exact r.length.symm
 refine⟨"tuple",_,PyProof.Rows.slot_tuple_getitem.lookup,ht.typeIs,?_⟩;refine HT.getItem_tuple_cut ht hs pl pu (by rw[hlen];exact hw) ?_ (by rw[hlen];exact hz);rw[hlen];refine⟨.ref s.heap.objs.size,_,I.laid (t':=s.toks) (o:=.tup (vP xs lo hi)) (fun b ob q=>A4 _ q) (A6 _) ?_,rfl,q _ (I.hok.fresh (A6 _))⟩;exact⟨F0 (wX xs lo hi) hz,_,(r.drop (HT.sIx xs.length 0 lo)).take (HT.sIx xs.length xs.length hi-HT.sIx xs.length 0 lo),IsTup.new _ _⟩
noncomputable def XD(K:Fg):R2:=fun x y H Q=>∃a b xs ys,x=.ref a/\y=.ref b/\SqT K H a xs/\SqT K H b ys/\xs≠[]/\xs.length+ys.length<=sizeLine /\
 (ys=[]->Q (.ref a) H)/\(ys≠[]->∀p,H p=none->Q (.ref p) (upd H p (.tup (xs++ys))))
theorem bE.nil_iff{xs:List V}{us:List Value}(r:bE xs us):us=[]↔xs=[]:=by
 cases r with
 |nil=>simp
 |cons _ _=>simp
theorem aCr:OpR X (binaryOp .Add) (XD X.K):=by
 intro pins s σ H x y v u Q I rx ry h;obtain⟨a,b,xs,ys,rfl,rfl,ha,hb,hx,hz,q1,q2⟩:=h;cases rx;cases ry;obtain⟨its,r1,p1,_⟩:=I.tuple ha;obtain⟨its2,r2,p2,_⟩:=I.tuple hb;refine HT.cat_tup p1 p2 (fun z=>hx (r1.nil_iff.mp z)) (fun z=>⟨.ref a,H,I,rfl,q1 (r2.nil_iff.mp z)⟩) (fun z=>?_) (by rw[<- r1.length,<- r2.length];exact hz);refine⟨.ref s.heap.objs.size,_,I.laid (t':=s.toks) (o:=.tup (xs++ys)) (fun b ob q=>A4 _ q) (A6 _) ?_,rfl,q2 (fun w=>z (r2.nil_iff.mpr w)) _ (I.hok.fresh (A6 _))⟩;exact⟨by rw[B4];exact hz,_,r1.append r2,IsTup.new _ _⟩
end
noncomputable def ixN(n:Nat)(i:Int):Option Nat:=if 0<=i then(if i<n then some i.toNat else none)else if -(n:Int)<=i then some (i+n).toNat else none
noncomputable def atI{α:Type}(xs:List α)(i:Int):Option α:=(ixN xs.length i).bind fun j=>xs[j]?
theorem OL{n:Nat}{i:Int}{j:Nat}(h:ixN n i=some j):seqIndex? i n=some j/\j<n/\-(n:Int)<=i/\i<n:=by
 unfold ixN at h;by_cases h0:0<=i
 .rw[A3 h0]at h;by_cases h1:i<n
  .rw[A3 h1]at h;have e:i.toNat=j:=D5 h;exact⟨by rw[seqIndex_of h0 h1,e],by omega,by omega,h1⟩
  .rw[A7 h1]at h;cases h
 .rw[A7 h0]at h;by_cases h1:-(n:Int)<=i
  .rw[A3 h1]at h;have e:(i+n).toNat=j:=D5 h;exact⟨by rw[seqIndex_neg (by omega) h1,e],by omega,h1,by omega⟩
  .rw[A7 h1]at h;cases h
theorem GC{α:Type}{xs:List α}{i:Int}{v:α}(h:atI xs i=some v):∃j,seqIndex? i xs.length=some j/\xs[j]?=some v/\j<xs.length/\-(xs.length:Int)<=i/\i<xs.length:=by
 unfold atI at h;cases e:ixN xs.length i with
 |none=>rw[e]at h;cases h
 |some j=>
  rw[e]at h;obtain⟨h1,h2,h3,h4⟩:=OL e;exact⟨j,h1,h,h2,h3,h4⟩
theorem oR{α:Type}{xs:List α}{j:Nat}{v:α}(h:xs[j]?=some v):atI xs (j:Int)=some v:=by
 have hj:j<xs.length:=(List.getElem?_eq_some_iff.mp h).1
 have e:ixN xs.length (j:Int)=some j:=by
  unfold ixN;rw[A3 (by omega),A3 (by omega)];simp
 unfold atI;rw[e];exact h
noncomputable def OI(b:Expr):Prop:=∀o i,subscripted b false o i=operate [o,i] (getItem o i)
noncomputable def IxR(X:Cx)(r:R2):Prop:=
 ∀(value slice:Expr)(pins:List (Addr×Obj))(s:Shared)(σ:St)(H:Hp)(x y:V)(v u:Value)(Q:VK),Inv X pins σ H s->RelV x v->RelV y u->r x y H Q->
  subscripted slice false v u=operate [v,u] (getItem v u)->wpAny (model X.prog X.w) X.A (subscriptTail value slice v u) (EP X pins σ Q) X.xe s
noncomputable def MtR(X:Cx)(id:String)(r:V->List V->Hp->VK->Prop):Prop:=
 ∀(pins:List (Addr×Obj))(s:Shared)(σ:St)(H:Hp)(x:V)(xs:List V)(v:Value)(us:List Value)(Q:VK),Inv X pins σ H s->RelV x v->bE xs us->r x xs H Q->
  wpAny (model X.prog X.w) X.A (call (.builtin id) (v::us)) (EP X pins σ Q) X.xe s
section
variable{X:Cx}{a b:Expr}{ta tb:TE}{pos:Pos}
theorem IxR.or{r r':R2}(h:IxR X r)(h':IxR X r'):IxR X (fun x y H Q=>r x y H Q\/r' x y H Q):=by
 intro value slice pins s σ H x y v u Q I rx ry q hs;rcases q with q|q
 .exact h value slice pins s σ H x y v u Q I rx ry q hs
 .exact h' value slice pins s σ H x y v u Q I rx ry q hs
theorem aIA{r:R2}(hr:IxR X r)(ha:PE X a ta)(hb:PE X b tb)(hs:OI b):PE X (.Subscript a b pos) (tOp r ta tb):=by
 intro pins s σ H Q I h;exact Subscript_ (aEN ha hb I h fun v u s2 x y H2 I2 rx ry q=>hr a b pins s2 σ H2 x y v u Q I2 rx ry q (hs _ _))
noncomputable def aIR(K:Fg):R2:=fun x y H Q=>∃p xs i v,x=.ref p/\y=.int i/\SqL K H p xs/\atI xs i=some v/\Q v H
noncomputable def aHV(K:Fg):R2:=fun x y H Q=>∃p xs i v,x=.ref p/\y=.int i/\SqT K H p xs/\atI xs i=some v/\Q v H
noncomputable def aIi:R2:=fun x y H Q=>∃z i c,x=.str z/\y=.int i/\z.length<=sizeLine/\atI z.cps.toList i=some c/\Q (.str ⟨#[c]⟩) H
theorem ix_list:IxR X (aIR X.K):=by
 intro value slice pins s σ H x y v u Q I rx ry h hs;obtain⟨p,xs,i,z,rfl,rfl,hq,he,q⟩:=h;cases rx;obtain⟨t,rfl⟩:=ry;obtain⟨its,r,pl,hz⟩:=I.list hq;obtain⟨j,h1,h2,h3,h4,h5⟩:=GC he;obtain⟨w,ew,rw'⟩:=r.get h2;have hl:=r.length;have hn:=wW;have fin:EP X pins σ Q w s:=⟨z,H,I,rw',q⟩;by_cases h0:0<=i
 .have hj:i.toNat=j:=by
   rw[seqIndex_of h0 h5]at h1;exact D5 h1
  exact item_listR pl.isList h0 (by omega) (by rw[hj];simpa using ew) fin hs
 .have hj:(i+(its.toArray.size:Int)).toNat=j:=by
   rw[seqIndex_neg (by omega) h4]at h1;rw[C5,<- hl];exact D5 h1
  exact subscriptTail_builtinR (x:=w) pl.isList.typeIs slot_list_getitem.lookup
   (wpAny_getItem_list_neg (Q:=fun r s'=>r=w/\EP X pins σ Q r s') pl.isList (by omega) (by rw[C5]<;>omega) (by omega) (by rw[hj];simpa using ew) ⟨rfl,fin⟩) hs
theorem ix_tup:IxR X (aHV X.K):=by
 intro value slice pins s σ H x y v u Q I rx ry h hs;obtain⟨p,xs,i,z,rfl,rfl,hq,he,q⟩:=h;cases rx;obtain⟨t,rfl⟩:=ry;obtain⟨its,r,pl,hz⟩:=I.tuple hq;obtain⟨j,h1,h2,h3,h4,h5⟩:=GC he;obtain⟨w,ew,rw'⟩:=r.get h2;have hl:=r.length;have hn:=wW;have fin:EP X pins σ Q w s:=⟨z,H,I,rw',q⟩
 exact subscriptTail_builtinR (x:=w) pl.typeIs slot_tuple_getitem.lookup
  (getItem_tuple (j:=j) (Q:=fun r s'=>r=w/\EP X pins σ Q r s') pl (by omega) (by omega) (by rw[C5,<- hl];exact h1) (by simpa using ew) ⟨rfl,fin⟩) hs
theorem aEY:IxR X aIi:=by
 intro value slice pins s σ H x y v u Q I rx ry h hs;obtain⟨z,i,c,rfl,rfl,hz,he,q⟩:=h;obtain⟨t,rfl⟩:=rx;obtain⟨t',rfl⟩:=ry;obtain⟨j,h1,h2,h3,h4,h5⟩:=GC he;have hl:z.cps.toList.length=z.length:=by simp[Str.length]
 rw[hl]at h1 h4 h5;have hn:=wW
 exact tail_any (typeIs_str s z t) slot_str_getitem.lookup (getItem_str (c:=c) (by
  have e1:decide (i < -(2 ^ 63:Int))=false:=C1 (by omega);have e2:decide (i>=2 ^ 63)=false:=C1 (by omega);rw[e1,e2,Bool.or_false]) (by rw[h1];simpa using h2) ⟨.str ⟨#[c]⟩,H,I.tok _,⟨_,rfl⟩,q⟩) hs
noncomputable def rIx(K:Fg):R2:=fun x y H Q=>aIR K x y H Q\/aHV K x y H Q\/aIi x y H Q
theorem aFm:IxR X (rIx X.K):=ix_list.or (ix_tup.or aEY)
theorem NL(its:List Value)(n j:Nat)(u:Value):Obj.mapSeq (·.setIfInBounds j u) { cls:=.type "list",data:=.seq its.toArray n }={ cls:=.type "list",data:=.seq (its.set j u).toArray n }:=by
 simp[Obj.mapSeq]
theorem Inv.lst{pins:List (Addr×Obj)}{p:Addr}{xs:List V}(I:Inv X pins σ H s)(h:H p=some (.lst xs)):
 ∃(its:List Value)(n:Nat),bE xs its/\s.heap.get? p=some { cls:=.type "list",data:=.seq its.toArray n }/\xs.length<=sizeLine:=by
 obtain⟨z,its,n,r,e⟩:=I.hok p _ h;exact⟨its,n,r,e,z⟩
theorem Inv.lstUpd{pins:List (Addr×Obj)}{p:Addr}{xs ys:List V}{its its':List Value}{n n':Nat}{f:Obj->Obj}(I:Inv X pins σ H s)(h:H p=some (.lst xs))
 (ho:s.heap.get? p=some { cls:=.type "list",data:=.seq its.toArray n }) (hf:f { cls:=.type "list",data:=.seq its.toArray n }={ cls:=.type "list",data:=.seq its'.toArray n' }) (r:bE ys its') (hz:ys.length<=sizeLine) (t:Nat):
 Inv X pins σ (upd H p (.lst ys)) { s with heap:=s.heap.update p f,toks:=t }:=by
 have e:(s.heap.update p f).get? p=some { cls:=.type "list",data:=.seq its'.toArray n' }:=by
  rw[A0d f ho (by rw[hf]<;>rfl),hf]
 refine I.write (x:=p) (e:=p) (by rw[h];trivial) (.inl rfl) (fun b u hb q=>(S4 _ _ (O3 hb)).trans q) ⟨_,e⟩ ?_;exact⟨hz,its',n',r,e⟩
noncomputable def aDx:V->V->V->Hp->(Hp->Prop)->Prop:=fun o i v H Q=>∃p xs k j,o=.ref p/\i=.int k/\H p=some (.lst xs)/\ixN xs.length k=some j/\Q (upd H p (.lst (xs.set j v)))
theorem set_list:aFK X aDx:=by
 intro pins s σ H o i v ov iv u Q I ro ri rv h;obtain⟨p,xs,k,j,rfl,rfl,hp,hj,q⟩:=h;cases ro;obtain⟨t,rfl⟩:=ri;obtain⟨its,n,r,ho,hz⟩:=I.lst hp;obtain⟨h1,h2,h3,h4⟩:=OL hj;have hl:=r.length;have hn:=wW
 have I':Inv X pins σ (upd H p (.lst (xs.set j v))) { s with heap:=s.heap.update p (Obj.mapSeq (·.setIfInBounds j u)) }:=
  I.lstUpd hp ho (NL its n j u) (r.set rv j) (by rw[U3];exact hz) s.toks
 by_cases h0:0<=k
 .have hk:k.toNat=j:=by
   rw[seqIndex_of h0 h4]at h1;exact D5 h1
  exact PySem.W.ki_setAt ho h0 (by omega) (by rw[C5,<- hl];exact h4) (by rw[hk];exact⟨_,I',q⟩)
 .have hk:(k+(its.toArray.size:Int)).toNat=j:=by
   rw[seqIndex_neg (by omega) h3]at h1;rw[C5,<- hl];exact D5 h1
  exact PySem.W.ki_setBack ho (by omega) (by rw[C5,<- hl];exact h3) (by omega) (by rw[hk];exact⟨_,I',q⟩)
theorem FL(lo hi:Option Int)(n:Nat):(sliceBounds lo hi none n).1=((HT.sIx n 0 lo:Nat):Int)/\(sliceBounds lo hi none n).2.1=((HT.sIx n n hi:Nat):Int)/\(sliceBounds lo hi none n).2.2=1:=by
 refine⟨?_,?_,rfl⟩
 .cases lo with
  |none=>simp[sliceBounds,HT.sIx]
  |some i=>
   simp only[sliceBounds,HT.sIx,Option.getD_none,show(1:Int) > 0 by decide,if_true];by_cases h:i<0
   .simp only[h,if_true]<;>omega
   .simp only[h,if_false]<;>omega
 .cases hi with
  |none=>simp[sliceBounds,HT.sIx]
  |some i=>
   simp only[sliceBounds,HT.sIx,Option.getD_none,show(1:Int) > 0 by decide,if_true];by_cases h:i<0
   .simp only[h,if_true]<;>omega
   .simp only[h,if_false]<;>omega
theorem CJ(its:List Value)(lo hi:Option Int):slicePick its.toArray lo hi none=((its.drop (HT.sIx its.length 0 lo)).take (HT.sIx its.length its.length hi-HT.sIx its.length 0 lo)).toArray:=by
 obtain⟨h1,h2,h3⟩:=FL lo hi its.toArray.size;unfold slicePick;rw[h1,h2,h3];simp only[sliceRange_one,pick_run,List.size_toArray]<;>rfl
noncomputable def aIn(K:Fg):V->Option Int->Option Int->Hp->VK->Prop:=fun x lo hi H Q=>∃a xs,x=.ref a/\SqL K H a xs/\∀p,H p=none->Q (.ref p) (upd H p (.lst (vP xs lo hi)))
theorem sl_list:SlR X (aIn X.K):=by
 intro pins s σ H x v vl vu lo hi sl Q I rx hs pl pu h;obtain⟨a,xs,rfl,hx,q⟩:=h;cases rx;obtain⟨its,r,ht,hz⟩:=I.list hx;have hlen:=r.length;refine⟨"list",_,slot_list_getitem.lookup,ht.isList.typeIs,?_⟩;refine wpAny_getItem_list_slice ht.isList hs pl pu .none (by simp) ?_ (by rw[C5]<;>omega);rw[CJ,<- hlen];refine⟨.ref s.heap.objs.size,_,I.laid (t':=s.toks) (o:=.lst (vP xs lo hi)) (fun b ob q=>A4 _ q) (A6 _) ?_,rfl,q _ (I.hok.fresh (A6 _))⟩;exact⟨F0 (wX xs lo hi) hz,_,0,(r.drop (HT.sIx xs.length 0 lo)).take (HT.sIx xs.length xs.length hi-HT.sIx xs.length 0 lo),D1 _ rfl⟩
theorem FJ:fV X (.builtin "len") (fun xs H Q=>∃p ys,xs=[.ref p]/\(SqL X.K H p ys\/SqT X.K H p ys)/\Q (.int ys.length) H):=by
 intro pins s σ H xs us Q I r h;obtain⟨p,ys,rfl,hq,q⟩:=h;obtain⟨u,rfl,rx⟩:=vals1 r;cases rx;have hn:=wW;rcases hq with hq|hq
 .obtain⟨its,r',pl,hz⟩:=I.list hq;have hlen:=r'.length;exact Calls.call_len_list pl.isList (by simp only[List.size_toArray]<;>omega) ⟨.int ys.length,H,I.tok _,⟨s.toks+1,by rw[C5,hlen]⟩,q⟩
 .obtain⟨its,r',pl,hz⟩:=I.tuple hq;have hlen:=r'.length;exact len_tuple pl (by simp only[List.size_toArray]<;>omega) ⟨.int ys.length,H,I.tok _,⟨s.toks+1,by rw[C5,hlen]⟩,q⟩
theorem GS:fV X (.type "list") (fun xs H Q=>∃p ys,xs=[.ref p]/\(SqL X.K H p ys\/SqT X.K H p ys)/\∀l,H l=none->Q (.ref l) (upd H l (.lst ys))):=by
 intro pins s σ H xs us Q I r h;obtain⟨p,ys,rfl,hq,q⟩:=h;obtain⟨u,rfl,rx⟩:=vals1 r;cases rx
 have fin:∀(its:List Value),bE ys its->ys.length<=sizeLine->∀(h':Heap)(c':Nat),(∀b o',s.heap.get? b=some o'->h'.get? b=some o')->
  h'.get? s.heap.objs.size=some { cls:=.type "list",dict:=none,data:=.seq its.toArray c',slots:=#[] }->EP X pins σ Q (.ref s.heap.objs.size) { s with heap:=h' }:=fun its r' hz h' c' kp e=>
  ⟨.ref s.heap.objs.size,_,I.laid (t':=s.toks) kp (A6 _) (show eL X.prog X.w _ h' _ (.lst ys)from⟨hz,its,c',r',e⟩),rfl,q _ (I.hok.fresh (A6 _))⟩
 rcases hq with hq|hq
 .obtain⟨its,r',pl,hz⟩:=I.list hq;have hlen:=r'.length;obtain⟨o,ho,hc,n,hd⟩:=pl.isList;exact call_list_seq p (.inl rfl) ho hc hd (fun h' c' kp e=>fin its r' hz h' c' kp e) (by simp only[List.size_toArray]<;>omega)
 .obtain⟨its,r',pl,hz⟩:=I.tuple hq;have hlen:=r'.length;obtain⟨o,ho,hc,n,hd⟩:=pl;exact call_list_seq p (.inr rfl) ho hc hd (fun h' c' kp e=>fin its r' hz h' c' kp e) (by simp only[List.size_toArray]<;>omega)
theorem CS:fV X (.type "tuple") (fun xs H Q=>∃p ys,xs=[.ref p]/\((SqL X.K H p ys/\∀l,H l=none->Q (.ref l) (upd H l (.tup ys)))\/(SqT X.K H p ys/\Q (.ref p) H))):=by
 intro pins s σ H xs us Q I r h;obtain⟨p,ys,rfl,h⟩:=h;obtain⟨u,rfl,rx⟩:=vals1 r;cases rx;rcases h with⟨hq,q⟩|⟨hq,q⟩
 .obtain⟨its,r',pl,hz⟩:=I.list hq;have hlen:=r'.length;refine call_tuple_list pl.isList (fun h' kp=>?_) (by simp only[List.size_toArray]<;>omega);have I1:Inv X pins σ H { s with heap:=h' }:=I.kept (t':=s.toks) kp
  have I2:Inv X pins σ (upd H h'.objs.size (.tup ys)) { s with heap:=h'.push { cls:=.type "tuple",data:=.seq its.toArray } }:=
   I1.laid (t':=s.toks) (fun b o e=>A4 _ e) (A6 _) (show eL X.prog X.w _ _ _ (.tup ys)from⟨hz,its,r',IsTup.new _ _⟩)
  exact⟨.ref h'.objs.size,_,I2,rfl,q _ (I1.hok.fresh (A6 _))⟩
 .obtain⟨its,r',pl,hz⟩:=I.tuple hq;exact call_tuple_same pl ⟨.ref p,H,I,rfl,q⟩
noncomputable def tyV(K:Fg)(T:String)(x:V)(H:Hp):Prop:=match x with
 |.str _=>T="str"
 |.int _=>T="int"
 |.ref p=>(T="list"/\∃xs,SqL K H p xs)\/(T="tuple"/\∃o,K.lookup p=some o/\o.cls=.type "tuple"/\o.dict=none) \/
  (T="dict"/\((∃kvs,H p=some (.dK kvs))\/∃kvs,H p=some (.dT kvs)))\/(T="set"/\∃S n,H p=some (.set S n))
 |_=>False
theorem WW{pins:List (Addr×Obj)}{T:String}{x:V}{v:Value}(I:Inv X pins σ H s)(r:RelV x v)(ty:tyV X.K T x H):
 s.TypeIs v T/\∀a,v=.ref a->∃ob,s.heap.get? a=some ob/\ob.dict=none:=by
 cases x with
 |str z=>
  obtain⟨t,rfl⟩:=r;cases (show T="str" from ty);exact⟨typeIs_str s z t,fun _ e=>nomatch e⟩
 |int i=>
  obtain⟨t,rfl⟩:=r;cases (show T="int" from ty);exact⟨typeIs_int s i t,fun _ e=>nomatch e⟩
 |ref p=>
  cases r;rcases ty with⟨rfl,xs,hq⟩|⟨rfl,o,hk,hc,hd⟩|⟨rfl,hk⟩|⟨rfl,S,n,hk⟩
  .obtain⟨its,_,pl,_⟩:=I.list hq;refine⟨pl.isList.typeIs,fun a e=>?_⟩;cases e;obtain⟨o,n,e,c,hd,_⟩:=pl;exact⟨o,e,hd⟩
  .refine⟨⟨o,I.kIn p o hk,hc⟩,fun a e=>?_⟩;cases e;exact⟨o,I.kIn _ o hk,hd⟩
  .have z:∃o,s.heap.get? p=some o/\o.ExactDict:=by
    rcases hk with⟨kvs,hk⟩|⟨kvs,hk⟩
    .obtain⟨_,_,_,_,o,_,_,e,ex,_⟩:=I.hok p _ hk;exact⟨o,e,ex⟩
    .obtain⟨_,_,_,_,o,_,_,e,ex,_⟩:=I.hok p _ hk;exact⟨o,e,ex⟩
   obtain⟨o,e,ex⟩:=z;refine⟨⟨o,e,ex.1⟩,fun a e2=>?_⟩;cases e2;exact⟨o,e,ex.2.1⟩
  .obtain⟨o,_,_,_,e,ex,_⟩:=I.hok p _ hk;refine⟨⟨o,e,ex.1⟩,fun a e2=>?_⟩;cases e2;exact⟨o,e,ex.2.1⟩
 |_=>exact False.elim ty
noncomputable def aHD(K:Fg)(T:String)(r:V->List V->Hp->VK->Prop)(to:TE):TE:=fun σ H Q=>to σ H fun x H1=>tyV K T x H1/\r x [] H1 Q
noncomputable def tBM(K:Fg)(T:String)(r:V->List V->Hp->VK->Prop)(to:TE)(t:TA):TE:=fun σ H Q=>to σ H fun x H1=>tyV K T x H1/\t σ H1 fun xs H2=>r x xs H2 Q
variable{o e:Expr}{es:List Expr}{to:TE}{t:TA}{name:Str}{apos cpos:Pos}{T id:String}{r:V->List V->Hp->VK->Prop}
theorem XU(pa:PlainAttrs T)(slot:Slot T name id)(hty:typeOf (.builtin id)=pure (.type "method_descriptor"))(hm:MtR X id r)(ho:PE X o to)
 (hbase:attributeBase o name X.env (eval o X.env)=eval o X.env:=by rfl) (hline:(apos.endLine==cpos.line)=true:=by rfl):PE X (.Call (.Attribute o name apos) [] [] cpos) (aHD X.K T r to):=by
 intro pins s σ H Q I h;refine wpAny_Call_method0_late hbase hline (thn (ho pins s σ H _ I h) fun v s1 ⟨x,H1,I1,r1,ty,q1⟩=>?_);obtain⟨h1,h2⟩:=WW I1 r1 ty;exact⟨T,id,pa,slot,hty,h1,h2,Calls.callWith_builtin rfl (PySem.evalArgs_none (hm pins s1 σ H1 x [] v [] Q I1 r1 .nil q1))⟩
theorem aIL(pa:PlainAttrs T)(slot:Slot T name id)(hty:typeOf (.builtin id)=pure (.type "method_descriptor"))(hm:MtR X id r)(ho:PE X o to)(ha:PA X (e::es) t)
 (hbase:attributeBase o name X.env (eval o X.env)=eval o X.env:=by rfl)
 (hfew:((backTo cpos (starEach (e::es) X.env)).all (fun x=>!x.1)&&(backToKw cpos (keywordEach [] X.env)).all (fun x=>x.1.isSome)
  && decide ((e::es).length+([]:List Keyword).length+(if ([]:List Keyword).isEmpty then 0 else 1)<30))=true:=by rfl)
 (hline:(apos.endLine==cpos.line)=true:=by rfl) (hs:starEach (e::es) X.env=(false,eval e X.env)::starEach es X.env:=by rfl) (hplain:(backTo cpos (starEach es X.env)).any (·.1)=false:=by rfl):
 PE X (.Call (.Attribute o name apos) (e::es) [] cpos) (tBM X.K T r to t):=by
 intro pins s σ H Q I h;refine wpAny_Call_method_late hbase hfew hline rfl (thn (ho pins s σ H _ I h) fun v s1 ⟨x,H1,I1,r1,ty,q1⟩=>?_);obtain⟨h1,h2⟩:=WW I1 r1 ty;refine⟨T,id,pa,slot,hty,h1,h2,?_⟩;have hA:=ha cpos pins s1 σ H1 _ I1 q1;rw[hs]at hA ⊢;refine Calls.callWith_builtin (by show(false || (backTo cpos (starEach es X.env)).any (·.1))=false;rw[hplain]<;>rfl) (Calls.evalArgs_plain ?_);exact thn hA fun us s2 ⟨vs,H2,I2,r2,q2⟩=>hm pins s2 σ H2 x vs v us Q I2 r1 r2 q2
end
noncomputable def MtM(X:Cx)(id:String)(r:V->List V->Hp->VK->Prop):Prop:=
 ∀(pins:List (Addr×Obj))(s:Shared)(σ:St)(H:Hp)(x:V)(xs:List V)(v:Value)(us:List Value)(Q:VK),Inv X pins σ H s->RelV x v->bE xs us->r x xs H Q->
  wpAny (model X.prog X.w) X.A (call (.builtin id) (v::us)) (EP X pins σ Q) X.xe s
theorem bE.one:∀{x:V}{us:List Value},bE [x] us->∃u,us=[u]/\RelV x u
 |_,_,.cons r .nil=>⟨_,rfl,r⟩
theorem bE.zero:∀{us:List Value},bE [] us->us=[]
 |_,.nil=>rfl
theorem bE.dropLast{xs:List V}{us:List Value}(h:bE xs us):bE xs.dropLast us.dropLast:=by
 induction h with
 |nil=>exact .nil
 |cons r t ih=>
  cases t with
  |nil=>exact .nil
  |cons q t'=>exact .cons r ih
theorem bE.reverse{xs:List V}{us:List Value}(h:bE xs us):bE xs.reverse us.reverse:=by
 induction h with
 |nil=>exact .nil
 |cons r t ih=>rw[O0,O0];exact bE.append ih (.cons r .nil)
theorem MB{α:Type}(l:List α):l.eraseIdx (l.length-1)=l.dropLast:=by
 induction l with
 |nil=>rfl
 |cons a r ih=>
  cases r with
  |nil=>rfl
  |cons b r=>
   have e:(a::b::r).length-1=((b::r).length-1)+1:=by
    have h1:(a::b::r).length=r.length+2:=rfl;have h2:(b::r).length=r.length+1:=rfl;omega
   rw[e,List.eraseIdx_cons_succ,ih]
   all_goals rfl
section
variable{X:Cx}{pins:List (Addr×Obj)}{σ:St}{H:Hp}{s:Shared}{l b:Addr}{xs ys zs:List V}
theorem Inv.lset{its its':List Value}{n:Nat}{f:Array Value->Array Value}{t':Nat}(I:Inv X pins σ H s)(hH:H l=some (.lst xs))
 (e:s.heap.get? l=some { cls:=.type "list",data:=.seq its.toArray n }) (hf:f its.toArray=its'.toArray) (hv:bE ys its') (hz:ys.length<=sizeLine):
 Inv X pins σ (upd H l (.lst ys)) { s with heap:=s.heap.update l (Obj.mapSeq f),toks:=t' }:=by
 have q:=PySem.IsL.update e f;rw[hf]at q;refine I.write (x:=l) (e:=l) (by rw[hH];exact trivial) (.inl rfl) (fun b' u hb hu=>(S4 s.heap (Obj.mapSeq f) (O3 hb)).trans hu) ⟨_,q⟩ ?_;exact⟨hz,its',_,hv,q⟩
theorem Inv.lnew{its:List Value}{t':Nat}(I:Inv X pins σ H s)(hv:bE ys its)(hz:ys.length<=sizeLine):
 Inv X pins σ (upd H s.heap.objs.size (.lst ys)) { s with heap:=s.heap.push { cls:=.type "list",data:=.seq its.toArray },toks:=t' }:=
 I.laid (fun _ _ q=>A4 _ q) (A6 _) ⟨hz,its,0,hv,D1 _ rfl⟩
theorem Inv.fresh(I:Inv X pins σ H s):H s.heap.objs.size=none:=I.hok.fresh (A6 _)
theorem Inv.lstM(I:Inv X pins σ H s)(hH:H l=some (.lst xs)):xs.length<=sizeLine/\∃(its:List Value)(n:Nat),bE xs its/\xs.length=its.length/\s.heap.get? l=some { cls:=.type "list",data:=.seq its.toArray n }:=by
 obtain⟨z,its,n,r,e⟩:=I.hok l _ hH;exact⟨z,its,n,r,r.length,e⟩
end
section
variable{X:Cx}
noncomputable def OZ:V->List V->Hp->VK->Prop:=fun x vs H Q=>∃l xs y,x=.ref l/\vs=[y]/\H l=some (.lst xs)/\xs.length<sizeLine/\Q .non (upd H l (.lst (xs++[y])))
theorem RM:MtM X "list.append" OZ:=by
 intro pins s σ H x vs v us Q I rx rv h;obtain⟨l,xs,y,rfl,rfl,hH,hz,q⟩:=h;cases rx;obtain⟨u,rfl,ru⟩:=rv.one;obtain⟨z,its,n,r,hl,e⟩:=I.lstM hH;refine call_meets F.slot_list_append ⟨_,e,rfl⟩ F.entry_list_append (F.args_list_append_2 _ _) (PySem.list_append l its.toArray n u (by rw[C5];omega)) ⟨e,?_⟩;refine⟨.non,_,I.lset (its':=its++[u]) hH e (by simp) (r.append (.cons ru .nil)) ?_,rfl,q⟩;rw[B4,C6];omega
noncomputable def aIg:V->List V->Hp->VK->Prop:=fun x vs H Q=>∃l xs y,x=.ref l/\vs=[]/\H l=some (.lst xs)/\xs[xs.length-1]?=some y/\Q y (upd H l (.lst xs.dropLast))
theorem aFJ:MtM X "list.pop" aIg:=by
 intro pins s σ H x vs v us Q I rx rv h;obtain⟨l,xs,y,rfl,rfl,hH,hy,q⟩:=h;cases rx;have hus:=rv.zero;subst hus;obtain⟨z,its,n,r,hl,e⟩:=I.lstM hH;obtain⟨u,hu,ru⟩:=r.get hy
 have hy':its.toArray[its.toArray.size-1]?=some u:=by
  show its.toArray[its.length-1]?=some u;rw[<- U6,<- hl];exact hu
 refine call_meets F.slot_list_pop ⟨_,e,rfl⟩ F.entry_list_pop (F.args_list_pop_1 _) (MeetsSeq.list_pop_last l its.toArray n u hy' (by rw[C5];omega)) ⟨e,?_⟩;refine⟨y,_,I.lset (its':=its.dropLast) hH e ?_ r.dropLast ?_,ru,q⟩
 .show its.toArray.eraseIdxIfInBounds (its.toArray.size-1)=its.dropLast.toArray;rw[C5,List.eraseIdxIfInBounds_toArray,MB]
 .rw[List.length_dropLast];omega
noncomputable def LB:V->List V->Hp->VK->Prop:=fun x vs H Q=>∃l xs,x=.ref l/\vs=[]/\H l=some (.lst xs)/\Q .non (upd H l (.lst xs.reverse))
theorem MP:MtM X "list.reverse" LB:=by
 intro pins s σ H x vs v us Q I rx rv h;obtain⟨l,xs,rfl,rfl,hH,q⟩:=h;cases rx;have hus:=rv.zero;subst hus;obtain⟨z,its,n,r,hl,e⟩:=I.lstM hH;refine call_meets F.slot_list_reverse ⟨_,e,rfl⟩ F.entry_list_reverse (F.args_list_reverse_1 _) (AutoSeq1.list_reverse_list_0 l its.toArray n (by rw[C5];omega)) ⟨e,?_⟩;refine⟨.non,_,I.lset (its':=its.reverse) hH e (by simp) r.reverse ?_,rfl,q⟩;rw[S9];omega
end
section
variable{κ:Type}[DecidableEq κ]
noncomputable def iO(kvs:List (κ×V))(k:κ):Option V:=(kvs.find? fun kv=>decide (kv.1=k)).map (·.2)
noncomputable def putK(kvs:List (κ×V))(k:κ)(v:V):List (κ×V):=
 if (kvs.any fun kv=>decide (kv.1=k))=true then kvs.map (fun kv=>if kv.1=k then(kv.1,v)else kv)else kvs++[(k,v)]
theorem AL{p:κ×V}{r:List (κ×V)}{k:κ}(e:p.1=k):iO (p::r) k=some p.2:=by simp[iO,List.find?_cons,e]
theorem zE{p:κ×V}{r:List (κ×V)}{k:κ}(e:¬p.1=k):iO (p::r) k=iO r k:=by simp[iO,List.find?_cons,e]
theorem AS(k:κ):∀kvs:List (κ×V),(kvs.any fun kv=>decide (kv.1=k))=(iO kvs k).isSome
 |[]=>rfl
 |p::r=>by
  rw[S0];by_cases e:p.1=k
  .simp only[AL e,decide_eq_true e,Bool.true_or,Option.isSome_some]
  .rw[zE e,C1 e,Bool.false_or];exact AS k r
theorem jK(kvs:List (κ×V))(k:κ)(v:V):(putK kvs k v).length<=kvs.length+1:=by
 unfold putK;split
 .rw[A2];omega
 .rw[B4,D0,Y8];omega
theorem VB{kvs:List (κ×V)}{k:κ}(v:V)(h:iO kvs k=none):putK kvs k v=kvs++[(k,v)]:=by
 unfold putK;rw[AS,h];exact A7 (by decide)
theorem CI.isSome_eq{o:Option V}{u:Option Value}(r:CI o u):o.isSome=u.isSome:=by
 cases o with
 |none=>cases u with
  |none=>rfl
  |some _=>exact(show False from r).elim
 |some _=>cases u with
  |none=>exact(show False from r).elim
  |some _=>rfl
theorem KV.val{kvs:List (κ×V)}{vs:List (κ×Value)}(r:KV kvs vs)(k:κ):CI (iO kvs k) (valueAt vs k):=by
 unfold KV at r
 induction r with
 |nil=>exact True.intro
 |@cons p q ps qs h t ih=>
  obtain⟨h1,h2⟩:=h;by_cases e:p.1=k
  .have e':q.1=k:=h1.symm.trans e;have b:valueAt (q::qs) k=some q.2:=by simp[valueAt,List.find?_cons,e']
   rw[AL e,b];exact h2
  .have e':¬q.1=k:=fun z=>e (h1.trans z);have b:valueAt (q::qs) k=valueAt qs k:=by simp[valueAt,List.find?_cons,e']
   rw[zE e,b];exact ih
theorem KV.any{kvs:List (κ×V)}{vs:List (κ×Value)}(r:KV kvs vs)(k:κ):(kvs.any fun kv=>decide (kv.1=k))=vs.any fun kv=>decide (kv.1=k):=by
 unfold KV at r
 induction r with
 |nil=>rfl
 |cons h t ih=>rw[S0,S0,ih,h.1]
theorem KV.repl{kvs:List (κ×V)}{vs:List (κ×Value)}(r:KV kvs vs)(k:κ){y:V}{u:Value}(ry:RelV y u):
 KV (kvs.map fun kv=>if kv.1=k then(kv.1,y)else kv) (vs.map fun kv=>if kv.1=k then(kv.1,u)else kv):=by
 unfold KV at r ⊢
 induction r with
 |nil=>exact .nil
 |@cons p q ps qs h t ih=>
  rw[B7,B7];refine .cons ?_ ih;obtain⟨h1,h2⟩:=h;by_cases e:p.1=k
  .rw[A3 e,A3 (h1.symm.trans e)];exact⟨h1,ry⟩
  .rw[A7 e,A7 (fun z=>e (h1.trans z))];exact⟨h1,h2⟩
theorem KV.put{kvs:List (κ×V)}{vs:List (κ×Value)}(r:KV kvs vs)(k:κ){y:V}{u:Value}(ry:RelV y u):KV (putK kvs k y) (stored vs k u):=by
 unfold putK stored;rw[r.any k];by_cases e:(vs.any fun kv=>decide (kv.1=k))=true
 .rw[A3 e,A3 e];exact r.repl k ry
 .rw[A7 e,A7 e];exact Paired.snoc r ⟨rfl,ry⟩
theorem KV.keys{kvs:List (κ×V)}{vs:List (κ×Value)}(r:KV kvs vs):kvs.map (·.1)=vs.map (·.1):=by
 unfold KV at r
 induction r with
 |nil=>rfl
 |cons h t ih=>rw[B7,B7,ih,h.1]
theorem KV.length{kvs:List (κ×V)}{vs:List (κ×Value)}(r:KV kvs vs):kvs.length=vs.length:=A0e r
end
theorem AV{P:Program}{w:World}{k:Key}{u:Value}(r:RelV (kV k) u):(dS P w).is k u=true:=by
 cases k with
 |inl i=>obtain⟨t,e⟩:=(show ∃t,u=Value.int i t from r);subst e;exact LJ P w i t
 |inr x=>obtain⟨t,e⟩:=(show ∃t,u=Value.str x t from r);subst e;exact JI P w x t
theorem DT{P:Program}{w:World}:∀{ks:List Key}{us:List Value},bE (ks.map kV) us->ItemsAre (dS P w) ks us
 |[],_=>fun r=>by rw[List.map_nil]at r;cases r;exact .nil
 |k::ks,_=>fun r=>by
  rw[B7]at r;cases r with
  |cons h t=>exact .cons (AV h) (DT t)
noncomputable abbrev KT(H:Hp):List (List Key×V)->List (List Key×Addr×Value)->Prop:=Paired fun p q=>p.1=q.1/\H q.2.1=some (.tup (p.1.map kV))/\RelV p.2 q.2.2
theorem KT.val{kvs:List (List Key×V)}{xs:List (List Key×Addr×Value)}(r:KT H kvs xs)(k:List Key):CI (iO kvs k) ((atKey xs k).map (·.2)):=by
 induction r with
 |nil=>exact True.intro
 |@cons p q ps qs h t ih=>
  obtain⟨h1,_,h2⟩:=h;by_cases e:p.1=k
  .have e':q.1=k:=h1.symm.trans e;have b:atKey (q::qs) k=some q.2:=by simp[atKey,List.find?_cons,e']
   rw[AL e,b];exact h2
  .have e':¬q.1=k:=fun z=>e (h1.trans z);have b:atKey (q::qs) k=atKey qs k:=by simp[atKey,List.find?_cons,e']
   rw[zE e,b];exact ih
theorem KT.repl{kvs:List (List Key×V)}{xs:List (List Key×Addr×Value)}(r:KT H kvs xs)(k:List Key){y:V}{u:Value}(ry:RelV y u):
 KT H (kvs.map fun kv=>if kv.1=k then(kv.1,y)else kv) (xs.map (putAt k u)):=by
 induction r with
 |nil=>exact .nil
 |@cons p q ps qs h t ih=>
  rw[B7,B7];refine .cons ?_ ih;obtain⟨h1,h2,h3⟩:=h;unfold putAt;by_cases e:p.1=k
  .rw[A3 e,A3 (h1.symm.trans e)];exact⟨h1,h2,ry⟩
  .rw[A7 e,A7 (fun z=>e (h1.trans z))];exact⟨h1,h2,h3⟩
theorem KT.put{kvs:List (List Key×V)}{xs:List (List Key×Addr×Value)}(r:KT H kvs xs)(k:List Key){b:Addr}{y:V}{u:Value}(hb:H b=some (.tup (k.map kV)))(ry:RelV y u):
 KT H (putK kvs k y) (storedH xs k b u):=by
 have e:(kvs.any fun kv=>decide (kv.1=k))=(atKey xs k).isSome:=by
  rw[AS,(r.val k).isSome_eq,Option.isSome_map]
 unfold putK storedH;rw[e];by_cases q:(atKey xs k).isSome=true
 .rw[A3 q,A3 q];exact r.repl k ry
 .rw[A7 q,A7 q];exact Paired.snoc r ⟨rfl,hb,ry⟩
theorem KT.keeps{H':Hp}{kvs:List (List Key×V)}{xs:List (List Key×Addr×Value)}(r:KT H kvs xs)(ht:∀b ys,H b=some (.tup ys)->H' b=some (.tup ys)):KT H' kvs xs:=
 Paired.mapP r fun _ _ z=>⟨z.1,ht _ _ z.2.1,z.2.2⟩
section
variable{P:Program}{w:World}{H:Hp}{h:Heap}{a:Addr}
theorem aDk{u:HO}(ok:HOk P w H h)(e:Rd H a u):eL P w H h a u:=e.ok ok
theorem JD{kvs:List (Key×V)}(ok:HOk P w H h)(e:Rd H a (.dK kvs)):kvs.length<=sizeLine/\(a==sysModules)=false/\∃vs,KV kvs vs/\h.DictOf (dS P w) a vs:=
 show eL P w H h a (.dK kvs)from aDk ok e
theorem PV{kvs:List (Key×V)}(ok:HOk P w H h)(e:H a=some (.dK kvs)):kvs.length<=sizeLine/\(a==sysModules)=false/\∃vs,KV kvs vs/\h.DictOf (dS P w) a vs:=JD ok (.inl e)
theorem wJ{ks:List Key}(ok:HOk P w H h)(e:H a=some (.tup (ks.map kV))):(tupleKind (dS P w)).is h ks a:=by
 obtain⟨_,its,r,o,h1,h2,n,h3⟩:=(show eL P w H h a (.tup (ks.map kV))from ok a _ e);exact⟨o,its.toArray,n,h1,h2,h3,by simpa using DT r⟩
theorem LD{kvs:List (List Key×V)}(ok:HOk P w H h)(e:Rd H a (.dT kvs)):kvs.length<=sizeLine/\(a==sysModules)=false /\
 ∃xs,KT H kvs xs/\h.DictOfH (tupleKind (dS P w)) a xs:=by
 obtain⟨z,y,xs,r,o,es,ep,h1,h2,h3,h4,h5⟩:=(show eL P w H h a (.dT kvs)from aDk ok e);refine⟨z,y,xs,r,o,es,ep,h1,h2,h3,h4,fun x hx=>?_,h5⟩
 have all:∀{l:List (List Key×V)}{m:List (List Key×Addr×Value)},KT H l m->∀x∈m,(tupleKind (dS P w)).is h x.1 x.2.1:=by
  intro l m q
  induction q with
  |nil=>intro x hx;exact nomatch hx
  |@cons p q ps qs hq t ih=>
   intro x hx;rcases List.mem_cons.mp hx with e|hx
   .subst e;exact wJ ok (by rw[<- hq.1];exact hq.2.1)
   .exact ih x hx
 exact all r x hx
theorem aDA{kvs:List (List Key×V)}(ok:HOk P w H h)(e:H a=some (.dT kvs)):kvs.length<=sizeLine/\(a==sysModules)=false /\
 ∃xs,KT H kvs xs/\h.DictOfH (tupleKind (dS P w)) a xs:=LD ok (.inl e)
end
noncomputable def uO(H:Hp)(a:Addr)(y:V)(r:Option V):Prop:=
 (∃kvs k,Rd H a (.dK kvs)/\y=kV k/\r=iO kvs k)\/∃kvs k b,Rd H a (.dT kvs)/\y=.ref b/\H b=some (.tup (k.map kV))/\r=iO kvs k
noncomputable def AE(H:Hp)(a:Addr)(y v:V)(H':Hp):Prop:=
 (∃kvs k,H a=some (.dK kvs)/\y=kV k/\kvs.length<sizeLine/\H'=upd H a (.dK (putK kvs k v))) \/
 ∃kvs k b,H a=some (.dT kvs)/\y=.ref b/\H b=some (.tup (k.map kV))/\kvs.length<sizeLine/\H'=upd H a (.dT (putK kvs k v))
theorem uO.k{a:Addr}{kvs:List (Key×V)}{k:Key}(e:H a=some (.dK kvs)):uO H a (kV k) (iO kvs k):=.inl ⟨kvs,k,.inl e,rfl,rfl⟩
theorem uO.t{a b:Addr}{kvs:List (List Key×V)}{k:List Key}(e:H a=some (.dT kvs))(eb:H b=some (.tup (k.map kV))):uO H a (.ref b) (iO kvs k):=.inr ⟨kvs,k,b,.inl e,rfl,eb,rfl⟩
theorem AE.k{a:Addr}{kvs:List (Key×V)}{k:Key}{v:V}(e:H a=some (.dK kvs))(hl:kvs.length<sizeLine):AE H a (kV k) v (upd H a (.dK (putK kvs k v))):=.inl ⟨kvs,k,e,rfl,hl,rfl⟩
theorem AE.t{a b:Addr}{kvs:List (List Key×V)}{k:List Key}{v:V}(e:H a=some (.dT kvs))(eb:H b=some (.tup (k.map kV)))(hl:kvs.length<sizeLine):
 AE H a (.ref b) v (upd H a (.dT (putK kvs k v))):=.inr ⟨kvs,k,b,e,rfl,eb,hl,rfl⟩
section
variable{X:Cx}{pins:List (Addr×Obj)}{σ:St}{H:Hp}{s:Shared}{a:Addr}{y v:V}{u r:Value}{o:Option V}{A:Around}{E:Value->Shared->Prop}
theorem Inv.big(I:Inv X pins σ H s):sysModules<s.heap.objs.size:=by
 have h:mainGlobals<s.heap.objs.size:=(I.mod.glob.keeps I.bk).lt;exact Nat.lt_trans (by decide) h
theorem SX{Q:Value->Shared->Prop}(hu:A.units+1<cLine)(I:Inv X pins σ H s)(g:uO H a y (some v))(ry:RelV y u)(h:∀w' s',Inv X pins σ H s'->RelV v w'->Q w' s'):
 wpAny (model X.prog X.w) A (getItem (.ref a) u) Q E s:=by
 rcases g with⟨kvs,k,e,ey,l⟩|⟨kvs,k,b,e,ey,eb,l⟩
 .subst ey;obtain⟨z,hd,vs,rel,dd⟩:=JD I.hok e;obtain⟨w',hw,rw'⟩:=CI.some_of (v:=v) (o:=valueAt vs k) (by rw[l];exact rel.val k);exact wpAny_getItem_of (AV ry) dd.mapOf hw (h w' _ (I.tok _) rw')
 .subst ey;cases (show u=Value.ref b from ry);obtain⟨z,hd,xs,rel,dd⟩:=LD I.hok e;obtain⟨w',hw,rw'⟩:=CI.some_of (v:=v) (o:=(atKey xs k).map (·.2)) (by rw[l];exact rel.val k);obtain⟨p,hp,hp2⟩:=Option.map_eq_some_iff.mp hw;refine wpAny_getItem_heap (A0j hu) (wJ I.hok eb) dd hp ?_;rw[hp2];exact h w' _ (I.tok _) rw'
theorem aJm{Q:Value->Shared->Prop}(hu:A.units+1<cLine)(I:Inv X pins σ H s)(g:uO H a y o)(ry:RelV y u)(h:∀s',Inv X pins σ H s'->Q (.bool o.isSome) s'):
 wpAny (model X.prog X.w) A (compareOp .In u (.ref a)) Q E s:=by
 rcases g with⟨kvs,k,e,ey,l⟩|⟨kvs,k,b,e,ey,eb,l⟩
 .subst ey;obtain⟨z,hd,vs,rel,dd⟩:=JD I.hok e;refine wpAny_in_of (AV ry) hd dd.mapOf ?_;rw[<- (rel.val k).isSome_eq,<- l];exact h _ (I.tok _)
 .subst ey;cases (show u=Value.ref b from ry);obtain⟨z,hd,xs,rel,dd⟩:=LD I.hok e;refine wpAny_in_heap (A0j hu) (wJ I.hok eb) hd dd ?_;have q:=(rel.val k).isSome_eq;rw[Option.isSome_map]at q;rw[<- q,<- l];exact h _ (I.tok _)
theorem aBo{Q:Value->Shared->Prop}(hu:A.units+1<cLine)(I:Inv X pins σ H s)(g:uO H a y o)(ry:RelV y u)(h:∀s',Inv X pins σ H s'->Q (.bool (!o.isSome)) s'):
 wpAny (model X.prog X.w) A (compareOp .NotIn u (.ref a)) Q E s:=by
 rcases g with⟨kvs,k,e,ey,l⟩|⟨kvs,k,b,e,ey,eb,l⟩
 .subst ey;obtain⟨z,hd,vs,rel,dd⟩:=JD I.hok e;refine wpAny_notIn_of (AV ry) hd dd.mapOf ?_;rw[<- (rel.val k).isSome_eq,<- l];exact h _ (I.tok _)
 .subst ey;cases (show u=Value.ref b from ry);obtain⟨z,hd,xs,rel,dd⟩:=LD I.hok e;refine wpAny_notIn_heap (A0j hu) (wJ I.hok eb) hd dd ?_;have q:=(rel.val k).isSome_eq;rw[Option.isSome_map]at q;rw[<- q,<- l];exact h _ (I.tok _)
theorem vF{h':Heap}{t':Nat}{ob:HO}(I:Inv X pins σ H s)(mu:Mut (H a))(hs:Heap.SameBut a s.heap h')(he:∃q,h'.get? a=some q)(new:eL X.prog X.w (upd H a ob) h' a ob):
 Inv X pins σ (upd H a ob) { s with heap:=h',toks:=t' }:=
 I.write (x:=a) (e:=a) mu (.inl rfl) (fun b q hb z=>(hs.2 b hb).trans z) he new
theorem NY{P:Program}{w:World}{H':Hp}{h':Heap}{kvs:List (Key×V)}{vs:List (Key×Value)}(z:kvs.length<=sizeLine)(hd:(a==sysModules)=false)(rel:KV kvs vs)(dd:h'.DictOf (dS P w) a vs):
 eL P w H' h' a (.dK kvs):=⟨z,hd,vs,rel,dd⟩
theorem UM{H':Hp}{Q:Unit->Shared->Prop}(hu:A.units+1<cLine)(I:Inv X pins σ H s)(g:AE H a y v H')(ry:RelV y u)(rv:RelV v r)(h:∀s',Inv X pins σ H' s'->Q () s'):
 wpAny (model X.prog X.w) A (setItem (.ref a) u r) Q E s:=by
 rcases g with⟨kvs,k,e,ey,l,eH⟩|⟨kvs,k,b,e,ey,eb,l,eH⟩
 .subst ey eH;obtain⟨z,hd,vs,rel,dd⟩:=PV I.hok e;have hz:vs.length<=sizeLine:=by rw[<- rel.length];exact z
  have hl:(putK kvs k v).length<=sizeLine:=by have:=jK kvs k v;omega
  refine wpAny_setItem_pairs (hsz:=hz) (AV ry) dd fun h' dd' hs=>h _ ?_;have he:∃q,h'.get? a=some q:=let⟨q,_,_,hq,_⟩:=dd';⟨q,hq⟩;exact vF I (by rw[e];exact True.intro) hs he (NY hl hd (rel.put k rv) dd')
 .subst ey eH;cases (show u=Value.ref b from ry);obtain⟨z,hd,xs,rel,dd⟩:=aDA I.hok e;have hz:xs.length<=sizeLine:=by rw[<- A0e rel];exact z
  have hl:(putK kvs k v).length<=sizeLine:=by have:=jK kvs k v;omega
  refine wpAny_setItem_heap (hsz:=hz) (A0j hu) (wJ I.hok eb) dd fun h' dd' hs=>h _ ?_;obtain⟨q,es,ep,hq,h2,h3,h4,_,h5⟩:=dd';refine vF I (by rw[e];exact True.intro) hs ⟨q,hq⟩ ⟨hl,hd,_,(rel.put k eb rv).keeps fun c ys ec=>?_,q,es,ep,hq,h2,h3,h4,h5⟩;rw[aV (aDH ec e (fun z=>nomatch z))];exact ec
end
noncomputable def aGG(i:Expr):Prop:=∀ov iv,subscripted i false ov iv=operate [ov,iv] (getItem ov iv)
theorem aAZ{prog:Program}{w:World}{A:Around}{E:Value->Shared->Prop}{s:Shared}{env:Env}{value slice:Expr}{pos:Pos}{T id:String}{Q:Value->Shared->Prop}
 (hl:typeLookup (.type T) "__getitem__"=pure (some (.builtin id))) (hs:aGG slice)
 (h:wpAny (model prog w) A (eval value env) (fun o s₁=>wpAny (model prog w) A (eval slice env) (fun i s₂=>s₂.TypeIs o T/\wpAny (model prog w) A (getItem o i) Q E s₂) E s₁) E s):
 wpAny (model prog w) A (eval (.Subscript value slice pos) env) Q E s:=by
 refine Subscript_ (E1 h (fun o s₁ h₁=>E1 h₁ (fun i s₂ h₂=>?_) fun _ _ x=>x) fun _ _ x=>x);obtain⟨hT,h₂⟩:=h₂;unfold subscriptTail;refine A1 ?_;rw[getitemInPython_of_ne hT.not_modules];refine A1 (wpAny_specialOf hT hl ?_)
 have fin:wpAny (model prog w) A (subscripted slice false o i) (fun r s₃=>wpAny (model prog w) A (letTemporaryGo value o r >>= fun _=>pure r) Q E s₃) E s₂:=by
  rw[hs o i];exact wpAny_operating (E1 h₂ (fun r s₃ h₃=>A1 (wpAny_letTemporaryGo (B5 h₃))) fun _ _ x=>x)
 first
  |exact B5 (A1 fin)
  |exact A1 (B5 (A1 fin))
  |exact A1 fin
theorem IX{X:Cx}{pins:List (Addr×Obj)}{a:Addr}{y:V}{o:Option V}(I:Inv X pins σ H s)(g:uO H a y o):s.TypeIs (.ref a) "dict":=by
 rcases g with⟨kvs,k,e,_,_⟩|⟨kvs,k,b,e,_,_,_⟩
 .obtain⟨_,_,vs,_,dd⟩:=JD I.hok e;exact dd.typeIs
 .obtain⟨_,_,xs,_,dd⟩:=LD I.hok e;exact dd.typeIs
noncomputable def aDe(td ty:TE):TE:=fun σ H Q=>td σ H fun x H1=>ty σ H1 fun y H2=>∃a v,x=.ref a/\uO H2 a y (some v)/\Q v H2
noncomputable def aHP(ty td:TE):TE:=fun σ H Q=>ty σ H fun y H1=>td σ H1 fun x H2=>∃a o,x=.ref a/\uO H2 a y o/\Q (.bl o.isSome) H2
noncomputable def PR(ty td:TE):TE:=fun σ H Q=>ty σ H fun y H1=>td σ H1 fun x H2=>∃a o,x=.ref a/\uO H2 a y o/\Q (.bl (!o.isSome)) H2
noncomputable def aDI(td ty tv:TE):TS:=fun D σ H=>tv σ H fun v H1=>td σ H1 fun x H2=>ty σ H2 fun y H3=>∃a H4,x=.ref a/\AE H3 a y v H4/\D.nx σ H4
section
variable{X:Cx}{o i e value:Expr}{pos pos' tpos:Pos}{td ty tv:TE}
theorem aCU(hu:X.A.units+1<cLine)(ho:PE X o td)(hi:PE X i ty)(hs:aGG i):PE X (.Subscript o i pos) (aDe td ty):=by
 intro pins s σ H Q I h;refine aAZ PySem.F.slot_dict_getitem.lookup hs (thn (ho pins s σ H _ I h) fun u s1 ⟨x,H1,I1,rx,q1⟩=>thn (hi pins s1 σ H1 _ I1 q1) fun iv s2 ⟨y,H2,I2,ry,a,v,ex,g,q2⟩=>?_);subst ex;obtain rfl:u=Value.ref a:=rx;exact⟨IX I2 g,SX hu I2 g ry fun w' s3 I3 rw'=>⟨v,H2,I3,rw',q2⟩⟩
theorem aEz(hu:X.A.units+1<cLine)(hi:PE X i ty)(ho:PE X o td):PC X .In i o (aHP ty td):=by
 intro pins s σ H Q I h;refine thn (hi pins s σ H _ I h) fun iv s1 ⟨y,H1,I1,ry,q1⟩=>thn (ho pins s1 σ H1 _ I1 q1) fun u s2 ⟨x,H2,I2,rx,a,ov,ex,g,q2⟩=>?_;subst ex;obtain rfl:u=Value.ref a:=rx;exact aJm hu I2 g ry fun s3 I3=>⟨.bl ov.isSome,H2,I3,rfl,q2⟩
theorem RG(hu:X.A.units+1<cLine)(hi:PE X i ty)(ho:PE X o td):PC X .NotIn i o (PR ty td):=by
 intro pins s σ H Q I h;refine thn (hi pins s σ H _ I h) fun iv s1 ⟨y,H1,I1,ry,q1⟩=>thn (ho pins s1 σ H1 _ I1 q1) fun u s2 ⟨x,H2,I2,rx,a,ov,ex,g,q2⟩=>?_;subst ex;obtain rfl:u=Value.ref a:=rx;exact aBo hu I2 g ry fun s3 I3=>⟨.bl (!ov.isSome),H2,I3,rfl,q2⟩
theorem aCW(hu:X.A.units+1<cLine)(ho:PE X o td)(hi:PE X i ty)(hv:PE X value tv)(hs:swapsWith value (some (.Subscript o i pos')) pos.line X.env=pure false):
 PS X (.Assign [.Subscript o i pos'] value pos) (aDI td ty tv):=by
 intro pins s σ H D I h;refine wpAny_Assign_Subscript (thn (hv pins s σ H _ I h) fun r s1 ⟨v,H1,I1,rv,q1⟩=>thn (ho pins s1 σ H1 _ I1 q1) fun u s2 ⟨x,H2,I2,rx,q2⟩=>thn (hi pins s2 σ H2 _ I2 q2) fun iv s3 ⟨y,H3,I3,ry,a,H4,ex,g,q3⟩=>?_) hs;subst ex;obtain rfl:u=Value.ref a:=rx;exact UM hu I3 g ry rv fun s4 I4=>⟨σ,H4,I4,q3⟩
end
theorem AO{P:Program}{w:World}(h:Heap)(hb:sysModules<h.objs.size):eL P w H (h.push { cls:=.type "dict",data:=.dict #[] }) h.objs.size (.dK []):=
 ⟨E5 _,beq_eq_false_iff_ne.mpr (O3 (C7 hb)),[],.nil,Heap.DictOf.new h⟩
theorem YE{P:Program}{w:World}(h:Heap)(hb:sysModules<h.objs.size):eL P w H (h.push { cls:=.type "dict",data:=.dict #[] }) h.objs.size (.dT []):=
 ⟨E5 _,beq_eq_false_iff_ne.mpr (O3 (C7 hb)),[],.nil,_,#[],0,D1 _ rfl,⟨rfl,rfl,rfl⟩,rfl,rfl,A0f⟩
noncomputable def NW:TE:=fun _ H Q=>∀p,H p=none->Q (.ref p) (upd H p (.dK []))
section
variable{X:Cx}{pos:Pos}
theorem JF:PE X (.Dict [] [] pos) NW:=fun pins s σ H Q I h=>
 wpAny_Dict_empty ⟨.ref s.heap.objs.size,_,I.laid (a:=s.heap.objs.size) (o:=.dK []) (t':=s.toks) (fun _ _ q=>A4 _ q) (A6 _) (AO s.heap I.big),rfl,h _ (I.hok.fresh (A6 _))⟩
end
noncomputable def FF:List (TE×TE)->St->Hp->(List (V×V)->Hp->Prop)->Prop
 |[],_,H,Q=>Q [] H
 |(tk,tv)::r,σ,H,Q=>tk σ H fun x H1=>tv σ H1 fun y H2=>FF r σ H2 fun ps H3=>Q ((x,y)::ps) H3
noncomputable abbrev VV:List (V×V)->List (Value×Value)->Prop:=Paired fun p q=>RelV p.1 q.1/\RelV p.2 q.2
noncomputable def PPs(X:Cx)(pos:Pos)(keys:List (Option Expr))(values:List Expr)(trs:List (TE×TE)):Prop:=
 ∀(pins:List (Addr×Obj))(s:Shared)(σ:St)(H:Hp)(Q:List (V×V)->Hp->Prop),Inv X pins σ H s->FF trs σ H Q->
  wpAny (model X.prog X.w) X.A (evalPairs (pairTrees keys values X.env pos)) (fun vs s'=>∃ps H',Inv X pins σ H' s'/\VV ps vs/\Q ps H') X.xe s
theorem aBd{X:Cx}:PPs X pos [] [] []:=fun pins s σ H Q I h=>pairTrees_nil_walk ⟨[],H,I,.nil,h⟩
theorem aAI{X:Cx}{k v:Expr}{ks:List (Option Expr)}{vs:List Expr}{tk tv:TE}{trs:List (TE×TE)}(hk:PE X k tk)(hv:PE X v tv)(hr:PPs X pos ks vs trs):
 PPs X pos (some k::ks) (v::vs) ((tk,tv)::trs):=fun pins s σ H Q I h=>
 pairTrees_cons_walk (thn (hk pins s σ H _ I h) fun u s1 ⟨x,H1,I1,rx,q1⟩=>thn (hv pins s1 σ H1 _ I1 q1) fun w2 s2 ⟨y,H2,I2,ry,q2⟩=>
  thn (hr pins s2 σ H2 _ I2 q2) fun ws s3 ⟨ps,H3,I3,rel,q3⟩=>⟨(x,y)::ps,H3,I3,.cons ⟨rx,ry⟩ rel,q3⟩)
noncomputable def pQ(kvs more:List (Key×V)):List (Key×V):=more.foldl (fun acc kv=>putK acc kv.1 kv.2) kvs
theorem KV.merge:∀{more:List (Key×V)}{rs:List (Key×Value)}{kvs:List (Key×V)}{vs:List (Key×Value)},KV more rs->KV kvs vs->KV (pQ kvs more) (merged vs rs):=by
 intro more rs kvs vs r;unfold KV at r
 induction r generalizing kvs vs with
 |nil=>intro q;exact q
 |@cons p q ps qs h t ih=>
  intro r0
  have e:KV (putK kvs p.1 p.2) (stored vs q.1 q.2):=by
   have:=r0.put p.1 h.2;rw[<- h.1];exact this
  exact ih e
theorem sS:∀(more kvs:List (Key×V)),(pQ kvs more).length<=kvs.length+more.length
 |[]=>fun kvs=>by show kvs.length<=kvs.length+0;omega
 |p::r=>fun kvs=>by
  have h1:=sS r (putK kvs p.1 p.2);have h2:=jK kvs p.1 p.2;show(pQ (putK kvs p.1 p.2) r).length<=_;rw[D0];omega
theorem BL{P:Program}{w:World}:∀{kvs:List (Key×V)}{ws:List (Value×Value)},VV (kvs.map fun kv=>(kV kv.1,kv.2)) ws->∃rs,Carries (dS P w) ws rs/\KV kvs rs
 |[],_=>fun r=>by rw[List.map_nil]at r;cases r;exact⟨[],True.intro,.nil⟩
 |p::kvs,_=>fun r=>by
  rw[B7]at r;cases r with
  |@cons a b as bs h t=>
   obtain⟨rs,c,q⟩:=BL (P:=P) (w:=w) t;obtain⟨b1,b2⟩:=b;exact⟨(p.1,b2)::rs,⟨AV h.1,rfl,c⟩,.cons ⟨rfl,h.2⟩ q⟩
noncomputable def aDh(trs:List (TE×TE)):TE:=fun σ H Q=>∀p,H p=none->FF trs σ (upd H p (.dK [])) fun ps H2=>H2 p=some (.dK [])/\∃kvs:List (Key×V),ps=kvs.map (fun kv=>(kV kv.1,kv.2))/\kvs.length<=15/\Q (.ref p) (upd H2 p (.dK (pQ [] kvs)))
theorem aCo{X:Cx}{keys:List (Option Expr)}{values:List Expr}{trs:List (TE×TE)}(h:PPs X pos keys values trs)(hall:keys.all (·.isSome)=true)(hl:keys.length=values.length)(h0:keys≠[])
 (h15:keys.length<=15):PE X (.Dict keys values pos) (aDh trs):=by
 intro pins s σ H Q I q;have hn:=I.hok.fresh (A6 s.heap.objs.size);have I1:=I.laid (a:=s.heap.objs.size) (o:=.dK []) (h':=s.heap.push { cls:=.type "dict",data:=.dict #[] }) (t':=s.toks) (fun _ _ q=>A4 _ q) (A6 _) (AO s.heap I.big);refine wpAny_Dict_walk (knd:=dS X.prog X.w) hall hl h0 h15 (thn (h pins _ σ _ _ I1 (q _ hn)) fun ws s2 ⟨ps,H2,I2,rel,e,kvs,ep,lk,q2⟩=>?_);subst ep;obtain⟨rs,c,rk⟩:=BL (P:=X.prog) (w:=X.w) rel;obtain⟨z,hd,vs0,r0,dd⟩:=PV I2.hok e;cases r0;refine⟨rs,c,dd,fun h' dd' hs=>⟨.ref s.heap.objs.size,_,?_,rfl,q2⟩⟩
 have hz:(pQ [] kvs).length<=sizeLine:=by
  have h1:=sS kvs [];rw[Y8]at h1;rw[E4];omega
 have he:∃q,h'.get? s.heap.objs.size=some q:=let⟨q,_,_,hq,_⟩:=dd';⟨q,hq⟩;exact vF I2 (by rw[e];exact True.intro) hs he (NY hz hd (rk.merge .nil) dd')
structure M1(X:Cx)(o:Expr)(m:Str)(apos:Pos)(e:Expr)(cpos:Pos):Prop where
 base:attributeBase o m X.env (eval o X.env)=eval o X.env
 few:((backTo cpos (starEach [e] X.env)).all (fun x=>!x.1)&&(backToKw cpos (keywordEach [] X.env)).all (fun x=>x.1.isSome)
  && decide (([e]:List Expr).length+([]:List Keyword).length+(if ([]:List Keyword).isEmpty then 0 else 1)<30))=true
 line:(apos.endLine==cpos.line)=true
 trees:backTo cpos (starEach [e] X.env)=[(false,eval e X.env)]
structure M2(X:Cx)(o:Expr)(m:Str)(apos:Pos)(e f:Expr)(cpos:Pos):Prop where
 base:attributeBase o m X.env (eval o X.env)=eval o X.env
 few:((backTo cpos (starEach [e,f] X.env)).all (fun x=>!x.1)&&(backToKw cpos (keywordEach [] X.env)).all (fun x=>x.1.isSome)
  && decide (([e,f]:List Expr).length+([]:List Keyword).length+(if ([]:List Keyword).isEmpty then 0 else 1)<30))=true
 line:(apos.endLine==cpos.line)=true
 trees:backTo cpos (starEach [e,f] X.env)=[(false,eval e X.env),(false,eval f X.env)]
end L2
namespace Att
open PySem PySem.W PySem.Calls PyProof.Rows
theorem yG{P:Params}{h:Heap}:∀(ns:List Int)(vs:List Value),WellAll P h vs (ns.map WData.int)->IntsAre vs ns:=by
 intro ns
 induction ns with
 |nil=>
  intro vs w;rw[List.map_nil]at w;cases w;exact .nil
 |cons n ns ih=>
  intro vs w;rw[B7]at w;cases w with
  |cons a b=>
   cases a;exact .cons _ _ (ih _ b)
theorem UA{l:OpenLaw}{n:Nat}(hn:l.most=some n){P:Params}{h:Heap}{args:List WData}{vals:List Value}
 (hpre:l.row.toRowW.claim.pre args=true) (hwl:WellAll P h vals args):
 ∃a vs ns,vals=[Value.ref a]/\args=[WData.list (ns.map WData.int)]/\h.get? a=some { cls:=.type "list",data:=.seq vs.toArray }/\IntsAre vs ns/\ns.length<=n:=by
 have hsh:WShape.hasAll [] args [.list .int]=true:=(pre_splitW hpre).1;have hc:l.pre.holds [] { args:=args }=true:=(pre_splitW hpre).2;obtain⟨d,r,rfl,h1,h2⟩:=hasAllW_cons hsh;obtain rfl:=hasAllW_nil h2;obtain⟨xs,rfl,h3⟩:=hasW_list h1;obtain⟨ns,rfl⟩:=items_int h3
 have hlen:ns.length<=n:=by
  unfold OpenLaw.pre at hc
  have h4:(WTm.not (.lt (.lit (.int (n:Int))) (.len (.arg 0)))).holds [] { args:=[.list (ns.map .int)] }=true:=by
   have h4:=(holds_andW hc).1;rw[hn]at h4;exact h4
  have h5:=condW_of h4 (w_not (w_lt w_lit (w_len_list (w_arg rfl))));rw[A2]at h5;refine Nat.le_of_not_lt fun q=>?_;have q':(n:Int)<((ns.length:Nat):Int):=by omega
  first
   |(rw[B1 q']at h5;exact absurd h5 (by decide))
   |(simp at h5;omega)
 cases hwl with
 |cons w1 w2=>
  cases w2;cases w1 with
  |list ho hall=>exact⟨_,_,ns,rfl,rfl,ho,yG ns _ hall,hlen⟩
theorem TR(l:OpenLaw)(args:List WData):l.row.toRowW.claim.post args (.bool true) args=true:=
 postW_of (r:=l.row.toRowW) (X:=(true==true))
  (show WShape.has [] (.bool true) .bool=true by first|rfl|decide|simp[WShape.has,WShape.arms,WShape.armsAll])
  (show(WTm.eq .res (.lit (.bool true))).value [] { args:=args,res:=some (.bool true),after:=args }=some (.bool (true==true))from w_eq_bool (w_res rfl) w_lit) rfl
theorem attach_call{l:OpenLaw}{n:Nat}{q:Program}{loose:List Str}{XP:(Str->Option Value)->Heap->Prop}{YP:World->Heap->Prop}{d:DefRec}
 (hn:l.most=some n) (hdf:d.params.defaults=[])
 (call:∀(w:World)(s₀ s₁:Shared)(mg mb:Str->Option Value)(fa:Addr)(o:Obj)(pm cd doc:Value)(a:Addr)(vs:List Value)(ns:List Int),
  Ground q loose [] XP w s₀ mg mb s₁.heap->YP w s₁.heap->
  s₁.heap.get? fa=some o->o.data=.func (docDef d.name d.params d.body d.scope pm cd doc)->s₁.heap.CodeRec cd d.name->mg d.name=some (.ref fa)->
  s₁.heap.get? a=some { cls:=.type "list",data:=.seq vs.toArray }->IntsAre vs ns->ns.length<=n->s₁.gens=#[]->
  codeAny (model l.prog w) callerA (.call (.ref fa) ⟨[.ref a],[]⟩) (fun r s'=>r=.ok (.ret (.bool true))/\OldK s₁.heap s'.heap/\s'.os=s₁.os/\AllBare s'.gens) s₁):
 WalkO q loose XP YP l.row.toRowW d [] (fun f vs=>PySem.call f vs):=by
 intro w s₀ s₁ mg mb G Y fa o pm cd doc dV kV ho hd hcd hD hmg hg args vals as hpre hlay hrd hwl hlo;obtain rfl:dV=.none:=Dflts.none hD hdf;obtain rfl:kV=.none:=Dflts.noKw hD;obtain⟨a,vs,ns,rfl,rfl,hobj,hints,hlen⟩:=UA hn hpre hwl;refine enter_call (A0i (call w s₀ s₁ mg mb fa o pm cd doc a vs ns G Y ho (fd_plain hd) hcd hmg hobj hints hlen hg) fun r s' hq=>?_);obtain⟨rfl,h2,h3,h4⟩:=hq;exact⟨.inl ⟨.bool true,.bool true,[],rfl,fun _=>rfl,.bool true,TR l _,fun _=>⟨List.Pairwise.nil,fun _ hm=>(nomatch hm)⟩⟩,h2,h3,h4⟩
section
variable{prog:Program}{w:World}{A:Around}{E:Value->Shared->Prop}{s:Shared}{K:Frag}
end
end Att
namespace L2
open PySem PySem.Spec PyProof.Rows
theorem EG:∀{vs:List Value}{ns:List Int},IntsAre vs ns->bE (ns.map V.int) vs
 |_,_,.nil=>.nil
 |_,_,.cons n t h=>.cons ⟨t,rfl⟩ (EG h)
noncomputable def aFo(H:Hp):Prop:=∀b,H b=none\/∃o xs,H b=some (.frz o (.lst xs))
theorem ZP{P:Program}{w:World}{K:Fg}{mg mb:Str->Option Value}{CX:CXT}{k:Nat}{fa a:Addr}{fd:FuncData}{x:Str}{sp:Sp}{s₁:Shared}{vs:List Value}{ns:List Int}
 (KX:K.In s₁.heap) (hns:s₁.heap.Ns mainGlobals mg) (hb:s₁.heap.Ns builtinsNs mb) (hbb:∀x:Str,x≠"__name__"->mb x=bootBuiltins x) (hlim:s₁.heap.NoLimit) (hsm:∃mm,s₁.heap.Ns sysModules mm) (hg:s₁.gens=#[])
 (ha:s₁.heap.get? a=some { cls:=.type "list",data:=.seq vs.toArray }) (hi:IntsAre vs ns) (hl:ns.length<=sizeLine) (hr:eE k callerA)
 (F:∀base:Heap,K.In base->base.Ns mainGlobals mg->oK P w K mg base CX k fa fd [x] sp) (hbind:∀(s:Shared)(u:Value),BindsTo s fd ⟨[u],[]⟩ [(x,u)])
 (hsp:∀H:Hp,aFo H->SqL K H a (ns.map V.int)->sp [.ref a] H (fun v _=>v=.bl true) fun _ _ _=>False)
 (hCX:∀H e s',CX [] H s₁ (fun _ _ _=>False) e s'->False):
 codeAny (model P w) callerA (.call (.ref fa) ⟨[.ref a],[]⟩) (fun r s'=>r=.ok (.ret (.bool true))/\OldK s₁.heap s'.heap/\s'.os=s₁.os/\AllBare s'.gens) s₁:=by
 have rv:=EG hi;have lenV:=hi.length
 have core:∀H:Hp,aFo H->SqL K H a (ns.map V.int)->HOk P w H s₁.heap->(∀b,H b≠none->b=a)->(H a≠none->K.lookup a=none)->
  codeAny (model P w) callerA (.call (.ref fa) ⟨[.ref a],[]⟩) (fun r s'=>r=.ok (.ret (.bool true))/\OldK s₁.heap s'.heap/\s'.os=s₁.os/\AllBare s'.gens) s₁:=by
  intro H hO hS hok hA hK;have base_of:∀{b:Addr}{o:Obj},s₁.heap.get? b=some o->H b=none->(EZ s₁.heap H).get? b=some o:=fun e n=>VJ e n
  have noA:∀{b:Addr}{o:Obj}{es:Array DictEntry}{ep:Nat},s₁.heap.get? b=some o->o.data=.dict es ep->H b=none:=fun{b o es ep} e d=>by
   cases q:H b with
   |none=>rfl
   |some u=>
    have e':b=a:=hA b (by rw[q];simp);subst e';rw[ha]at e;cases e;have d':Data.seq vs.toArray _=Data.dict es ep:=d;cases d'
  have nsK:∀{b:Addr}{m:Str->Option Value},s₁.heap.Ns b m->(EZ s₁.heap H).Ns b m:=fun{b m} ⟨o,es,ep,e,d,r⟩=>⟨o,es,ep,base_of e (noA e d),d,r⟩
  have hKb:K.In (EZ s₁.heap H):=fun b o e=>base_of (KX b o e) (by
   cases q:H b with
   |none=>rfl
   |some u=>
    have e':b=a:=hA b (by rw[q];simp);subst e';rw[hK (by rw[q];simp)]at e;cases e)
  have hM:Mod K mg (EZ s₁.heap H):=⟨hKb,nsK hns,⟨mb,nsK hb,hbb⟩,(let⟨mc,h1,h2⟩:=hlim;⟨mc,nsK h1,h2⟩),(let⟨mm,hmm⟩:=hsm;let⟨o,es,ep,h1,h2,_⟩:=nsK hmm;⟨o,es,ep,h1,h2⟩)⟩;have e0:aCP P w K mg (EZ s₁.heap H) callerA [] s₁ H:=⟨rfl,hM,fun b o e=>aCV e,Nat.le_of_eq (UG _ _),trivial,fun b hb=>absurd (show b∈([]:List Addr)from hb) (by simp),hok,.of_eq hg⟩;refine A0i ((F _ hKb (nsK hns)).run callerA [] s₁ H ⟨[.ref a],[]⟩ [.ref a] [.ref a] _ _ hr e0 (hbind s₁ (.ref a)) (.cons rfl .nil) (hsp H hO hS)) fun r s' h=>?_;cases r with
  |error e=>exact(hCX H e s' h).elim
  |ok fl=>
   cases fl with
   |next=>exact False.elim h
   |brk=>exact False.elim h
   |cont=>exact False.elim h
   |ret u=>
    obtain⟨v,H',os,bare,un,hok',r',q⟩:=h;have q':v=.bl true:=q;subst q';obtain rfl:u=Value.bool true:=r';refine⟨rfl,OldK.of_keep fun b o e=>?_,os,bare⟩;cases q:H b with
    |none=>exact un.keep b o e q (by intro z;exact absurd (show b∈([]:List Addr)from z) (by simp)) (by simp)
    |some u=>
     rcases hO b with z|⟨ob,xs,z⟩
     .rw[q]at z;cases z
     .have z2:=un.frzs b ob _ z;obtain⟨e1,_⟩:=hok b _ z;obtain⟨e2,_⟩:=hok' b _ z2;rw[e]at e1;cases e1;exact e2
 cases hk:K.lookup a with
 |some o=>
  have e:=KX a o hk;rw[ha]at e;cases e;refine core (fun _=>none) (fun _=>.inl rfl) (.inr ⟨_,vs.toArray,_,hk,rfl,rfl,rfl,by rw[C5,lenV];exact hl,by simpa using rv⟩) (fun b u z=>by have z':(none:Option HO)=some u:=z;cases z') (fun b z=>absurd rfl z) fun z=>absurd rfl z
 |none=>
  refine core (fun b=>if b=a then some (.frz { cls:=.type "list",data:=.seq vs.toArray } (.lst (ns.map V.int)))else none) (fun b=>?_) (.inl (.inr ⟨{ cls:=.type "list",data:=.seq vs.toArray },A3 rfl⟩)) (fun b u z=>?_) (fun b z=>?_) fun _=>hk
  .by_cases hb:b=a
   .exact .inr ⟨_,_,A3 hb⟩
   .exact .inl (A7 hb)
  .by_cases hb:b=a
   .have z':=(A3 hb).symm.trans z;cases z';subst hb;exact⟨ha,by rw[A2];exact hl,vs,_,rv,ha⟩
   .have z':=(A7 hb).symm.trans z;cases z'
  .by_cases hb:b=a
   .exact hb
   .exact absurd (A7 hb) z
noncomputable abbrev KOf{K:Fg}{h:Heap}(_:K.In h):Fg:=K
theorem walk_of{l:PySem.W.OpenLaw}{n k:Nat}{q:Program}(hq:PyProof.Rows.importsNone q=true){loose:List Str}{XP:(Str->Option Value)->Heap->Prop}{YP:World->Heap->Prop}{d:DefRec}{K:Params->Fg}{CX:World->CXT}{sp:World->Sp}{x:Str}
 (hn:l.most=some n) (hn2:n<=sizeLine) (hdf:d.params.defaults=[]) (hr:eE k callerA)
 (hY:∀(w:World)(h:Heap),YP w h->(K w.params).In h)
 (F:∀(w:World)(mg:Str->Option Value)(fa:Addr)(h:Heap),(K w.params).In h->h.Ns mainGlobals mg->mg d.name=some (.ref fa)->
  ∃fd:FuncData,(∀(s:Shared)(u:Value),BindsTo s fd ⟨[u],[]⟩ [(x,u)]) /\
   ∀base:Heap,(K w.params).In base->base.Ns mainGlobals mg->oK l.prog w (K w.params) mg base (CX w) k fa fd [x] (sp w))
 (hsp:∀(w:World)(H:Hp)(a:Addr)(ns:List Int),ns.length<=n->aFo H->SqL (K w.params) H a (ns.map V.int)->sp w [.ref a] H (fun v _=>v=.bl true) fun _ _ _=>False)
 (hCX:∀(w:World)(H:Hp)(s:Shared)(e:Value)(s':Shared),CX w [] H s (fun _ _ _=>False) e s'->False):
 PySem.W.WalkO q loose XP YP l.row.toRowW d [] (fun f vs=>PySem.call f vs):=by
 refine Att.attach_call hn hdf fun w s₀ s₁ mg mb fa o pm cd doc a vs ns G Y ho hd hcd hmg hobj hints hlen hg=>?_;have KX:=hY w _ Y;obtain⟨fd,hb,hF⟩:=F w mg fa _ KX G.T.g hmg;exact ZP KX G.T.g G.T.b G.T.builtins G.T.nolimit (let⟨mm,hmm,_⟩:=(G.T.seer hq).mods;⟨mm,hmm⟩) hg hobj hints (F0 hlen hn2) hr hF hb (fun H hO hS=>hsp w H a ns hlen hO hS) fun H e s'=>hCX w H s₁ e s'
end L2
namespace L2
variable{H H':Hp}{W:Wd}{M M':Sto}{γ:Ga}{K:Fg}
open PySem PySem.Spec PyProof.Rows
noncomputable def gW(s:Stmt):Arguments:=match s with
 |.FunctionDef _ a _ _ _ _ _ _ _ _=>a
 |_=>{ posonlyargs:=[],args:=[],vararg:=none,kwonlyargs:=[],kw_defaults:=[],kwarg:=none,defaults:=[] }
noncomputable def dB(s:Stmt):List Stmt:=match s with
 |.FunctionDef _ _ b _ _ _ _ _ _ _=>b
 |_=>[]
noncomputable def aI(s:Stmt):Scope:=match s with
 |.FunctionDef _ _ _ _ _ _ sc _ _ _=>sc
 |_=>{ kind:=.function,names:=[],isGenerator:=false,isCoroutine:=false }
noncomputable abbrev CX0:CXT:=fun _ _ _ _ _ _=>False
noncomputable abbrev E0:XK:=fun _ _ _=>False
theorem aHT{X:Cx}:NI CX0 X E0:=fun _ _ _ _ _ _ _ h=>h.elim
structure Fun(K:Fg)(x qual:Str)(st:Stmt)(f:Addr)(fd:FuncData):Prop where
 ex:∃(oc:Value)(od:Option Addr)(kV doc pm:Value)(an:Option Addr)(cdv ct:Value)(osl:Array (Option Value)),
  fd=PySem.W.fnOf x qual (gW st) (dB st) (aI st) .none kV doc pm an cdv ct/\K.lookup f=some ⟨oc,od,.func fd,osl⟩/\PySem.W.codeIn K cdv qual=true
 kp:PySem.W.keepIn K (.ref f)=true
section
variable{P:Program}{w:World}{K:Fg}{mg:Str->Option Value}{base:Heap}
theorem Fun.ok{x qual:Str}{st:Stmt}{f:Addr}{fd:FuncData}{N ps:List Str}{k:Nat}{sp:Sp}{q:Bool}(F:Fun K x qual st f fd)(S:aX N ps (aI st))(len:∀vs H Q E,sp vs H Q E->vs.length=ps.length)
 (hbody:∀(cdv:Value)(A:Around)(outer:List Env)(s:Shared)(H:Hp)(vs:List V)(Q:VK)(E:XK),eE k (A.deeper (envOfC qual (aI st) s.heap.objs.size f cdv)) q->sp vs H Q E->
  ∃t,PSs (oO CX0 P w K mg base N qual (aI st) f cdv A outer s H E q).nox (dB st) t/\t { nx:=fun _ H'=>Q .non H',rt:=Q } (start N vs) H):oK P w K mg base CX0 (k+1) f fd ps sp q:=by
 obtain⟨oc,od,kV,doc,pm,an,cdv,ct,osl,rfl,lk,hcd⟩:=F.ex;refine aDJ lk hcd S len fun A outer s H vs Q E hr hsp=>?_;obtain⟨t,h,z⟩:=hbody cdv A outer s H vs Q E hr hsp;exact⟨t,h.nox,z⟩
theorem Fun.binds{x qual:Str}{st:Stmt}{f:Addr}{fd:FuncData}{ps:List Str}(F:Fun K x qual st f fd)
 (h:∀(kV doc pm:Value)(an:Option Addr)(cdv ct:Value)(us:List Value),us.length=ps.length->bindArgs (PySem.W.fnOf x qual (gW st) (dB st) (aI st) .none kV doc pm an cdv ct) ⟨us,[]⟩=pure (ps.zip us)):Binds K fd ps []:=by
 obtain⟨oc,od,kV,doc,pm,an,cdv,ct,osl,rfl,lk,hcd⟩:=F.ex;exact .all (h kV doc pm an cdv ct)
theorem aGr{x qual:Str}{st:Stmt}{f:Addr}{oc:Value}{od an:Option Addr}{osl:Array (Option Value)}{kV doc pm cdv ct:Value}(l:K.lookup f=some ⟨oc,od,.func (PySem.W.fnOf x qual (gW st) (dB st) (aI st) .none kV doc pm an cdv ct),osl⟩)
 (c:PySem.W.codeIn K cdv qual=true) (k:PySem.W.keepIn K (.ref f)=true):Fun K x qual st f (PySem.W.fnOf x qual (gW st) (dB st) (aI st) .none kV doc pm an cdv ct):=⟨⟨oc,od,kV,doc,pm,an,cdv,ct,osl,rfl,l,c⟩,k⟩
end
noncomputable def jQ(H H':Hp):Prop:=∀b o,H b=some o->H' b=some o
theorem jQ.refl(H:Hp):jQ H H:=fun _ _ h=>h
theorem jQ.trans{H1 H2:Hp}(a:jQ H H1)(b:jQ H1 H2):jQ H H2:=fun c o h=>b c o (a c o h)
theorem jQ.free(e:jQ H H'){l:Addr}(h:H' l=Option.none):H l=Option.none:=by
 cases q:H l with
 |none=>rfl
 |some o=>
  rw[e l o q]at h;cases h
theorem jQ.seq{a:Addr}{xs:List V}(e:jQ H H')(h:SqL K H a xs):SqL K H' a xs:=by
 rcases h with(h|⟨o,h⟩)|h
 .exact .inl (.inl (e _ _ h))
 .exact .inl (.inr ⟨o,e _ _ h⟩)
 .exact .inr h
noncomputable def fW(env:Env):List (Str×NameKind)->List (Str×Addr)->List (Str×Addr)
 |[],cs=>cs
 |y::r,cs=>fW env r (if (y.2==NameKind.free)=true then(y.1,(env.cells.lookup y.1).getD 0)::cs else cs)
theorem tV{env:Env}:∀(l:List (Str×NameKind))(cs:List (Str×Addr)),(∀y∈l,y.2=.free->∃c,env.cells.lookup y.1=some c)->
 (forIn l cs fun(x:Str×NameKind)(r:List (Str×Addr))=>if (x.2==NameKind.free)=true then(do
  let a <- cellOf env x.1
  pure (ForInStep.yield ((x.1,a)::r)))else pure (ForInStep.yield r))=(pure (fW env l cs):Sem (List (Str×Addr)))
 |[]=>fun cs _=>rfl
 |y::l=>fun cs h=>by
  rw[List.forIn_cons];by_cases hk:(y.2==NameKind.free)=true
  .obtain⟨c,hc⟩:=h y B0 (by simpa using hk);have e1:cellOf env y.1=pure c:=by unfold cellOf;rw[hc]
   rw[A3 hk,e1];show(forIn l ((y.1,c)::cs) _:Sem _)=_;rw[tV l _ fun z hz=>h z (A9 _ hz)]
   conv=>rhs;unfold fW
   rw[A3 hk,hc];rfl
  .rw[A7 hk];show(forIn l cs _:Sem _)=_;rw[tV l _ fun z hz=>h z (A9 _ hz)]
   conv=>rhs;unfold fW
   rw[A7 hk]
theorem BS{scope:Scope}{env:Env}(h:∀y∈scope.names,y.2=.free->∃c,env.cells.lookup y.1=some c):closureFor scope env=pure (fW env scope.names []):=by
 have e:=tV (env:=env) scope.names [] h;unfold closureFor
 show((forIn scope.names ([]:List (Str×Addr)) fun(x:Str×NameKind)(r:List (Str×Addr))=>if (x.2==NameKind.free)=true then(do
  let a <- cellOf env x.1
  pure (ForInStep.yield ((x.1,a)::r)))else pure (ForInStep.yield r)) >>= fun z=>pure z:Sem (List (Str×Addr)))=_
 rw[e];rfl
theorem ER{env:Env}:∀(l:List (Str×NameKind))(cs:List (Str×Addr)),(∀y∈l,y.2=.free->∃c,env.cells.lookup y.1=some c)->(∀x c,cs.lookup x=some c->env.cells.lookup x=some c)->
 ∀x c,(fW env l cs).lookup x=some c->env.cells.lookup x=some c
 |[]=>fun cs _ h x c e=>h x c e
 |y::l=>fun cs hf h x c e=>by
  unfold fW at e;refine ER l _ (fun z hz=>hf z (A9 _ hz)) ?_ x c e;intro z d ez;by_cases hk:(y.2==NameKind.free)=true
  .rw[A3 hk]at ez;obtain⟨c',hc'⟩:=hf y B0 (by simpa using hk);rw[hc']at ez;rw[D9]at ez;by_cases hz:(z==y.1)=true
   .rw[hz]at ez;have hz':z=y.1:=by simpa using hz
    rw[hz',hc'];exact ez
   .have hz':(z==y.1)=false:=by simpa using hz
    rw[hz']at ez;exact h z d ez
  .rw[A7 hk]at ez;exact h z d ez
theorem vU{env:Env}:∀(l:List (Str×NameKind))(cs:List (Str×Addr))(x:Str),((x,NameKind.free)∈l\/∃c,cs.lookup x=some c)->∃c,(fW env l cs).lookup x=some c
 |[]=>fun cs x h=>by
  rcases h with h|h
  .exact absurd h (by simp)
  .exact h
 |y::l=>fun cs x h=>by
  unfold fW;refine vU l _ x ?_;rcases h with h|⟨c,hc⟩
  .rcases List.mem_cons.mp h with e|e
   .subst e;refine .inr ?_;rw[A3 (by rfl)];exact⟨(env.cells.lookup x).getD 0,by rw[D9];simp⟩
   .exact .inl e
  .refine .inr ?_;by_cases hk:(y.2==NameKind.free)=true
   .rw[A3 hk,D9];by_cases hz:(x==y.1)=true
    .rw[hz];exact⟨_,rfl⟩
    .have hz':(x==y.1)=false:=by simpa using hz
     rw[hz'];exact⟨c,hc⟩
   .rw[A7 hk];exact⟨c,hc⟩
theorem tL{env:Env}:∀{names:List (Str×NameKind)}{x:Str}{k:NameKind},
 (names.map fun(y:Str×NameKind)=>if (y.2==NameKind.free&&env.scope.kind==.function&&env.kindOf y.1==some .cell)=true then(y.1,NameKind.cell)else(y.1,y.2)).lookup x=some k->
 (names.lookup x=some k)\/(names.lookup x=some .free/\k=.cell)
 |[],x,k=>fun h=>by simp at h
 |y::r,x,k=>fun h=>by
  rw[B7]at h;by_cases hx:(x==y.1)=true
  .by_cases hc:(y.2==NameKind.free&&env.scope.kind==.function&&env.kindOf y.1==some .cell)=true
   .rw[A3 hc,D9,hx]at h;rw[D9,hx];have:y.2=.free:=by simp at hc;exact hc.1.1
    refine .inr ⟨by rw[this],?_⟩;cases h;rfl
   .rw[A7 hc,D9,hx]at h;rw[D9,hx];exact .inl h
  .have hx':(x==y.1)=false:=by simpa using hx
   have h':(r.map fun(y:Str×NameKind)=>if (y.2==NameKind.free&&env.scope.kind==.function&&env.kindOf y.1==some .cell)=true then(y.1,NameKind.cell)else(y.1,y.2)).lookup x=some k:=by
    by_cases hc:(y.2==NameKind.free&&env.scope.kind==.function&&env.kindOf y.1==some .cell)=true
    .rw[A3 hc,D9,hx']at h;exact h
    .rw[A7 hc,D9,hx']at h;exact h
   rw[D9,hx'];exact tL h'
theorem zD{env:Env}:∀{names:List (Str×NameKind)}{x:Str},names.lookup x=some .free->
 (names.map fun(y:Str×NameKind)=>if (y.2==NameKind.free&&env.scope.kind==.function&&env.kindOf y.1==some .cell)=true then(y.1,NameKind.cell)else(y.1,y.2)).lookup x=some .cell \/
 (names.map fun(y:Str×NameKind)=>if (y.2==NameKind.free&&env.scope.kind==.function&&env.kindOf y.1==some .cell)=true then(y.1,NameKind.cell)else(y.1,y.2)).lookup x=some .free
 |[],x=>fun h=>by simp at h
 |y::r,x=>fun h=>by
  rw[B7];by_cases hx:(x==y.1)=true
  .rw[D9,hx]at h;have hy:y.2=.free:=D5 h;by_cases hc:(y.2==NameKind.free&&env.scope.kind==.function&&env.kindOf y.1==some .cell)=true
   .rw[A3 hc,D9,hx];exact .inl rfl
   .rw[A7 hc,D9,hx];exact .inr (by rw[hy])
  .have hx':(x==y.1)=false:=by simpa using hx
   rw[D9,hx']at h;have ih:=zD (env:=env) h;by_cases hc:(y.2==NameKind.free&&env.scope.kind==.function&&env.kindOf y.1==some .cell)=true
   .rw[A3 hc,D9,hx'];exact ih
   .rw[A7 hc,D9,hx'];exact ih
noncomputable def HV(X:Cx)(ifs:List Expr)(t:TT):Prop:=
 ∀(pins:List (Addr×Obj))(s:Shared)(σ:St)(H:Hp)(Q:Bool->Hp->Prop),Inv X pins σ H s->t σ H Q->
  wpAny (model X.prog X.w) X.A (forIn ifs true fun c r=>if r=true then(do
   let ok <- isTrue c X.env (eval c X.env)
   pure (ForInStep.yield ok))else pure (ForInStep.yield r)) (TP X pins σ Q) X.xe s
noncomputable def aHo:TT:=fun _ H Q=>Q true H
theorem ZV{X:Cx}:HV X [] aHo:=fun _ _ _ H _ I h=>wpAny_tests_nil ⟨H,I,h⟩
theorem ZN{X:Cx}{c:Expr}{t:TT}(h:PT X c t):HV X [c] t:=fun pins s σ H Q I hq=>wpAny_tests_one (h pins s σ H Q I hq)
section
variable{prog:Program}{w:World}{A:Around}{R:Result->Shared->Prop}{s:Shared}
theorem aBn{elt target iter:Expr}{ifs:List Expr}{scope:Scope}{pos:Pos}{it acc:Value}{env:Env}(I:Nat->Shared->Prop)
 (turn:∀n s,I n s->wpAny (model prog w) A (pyNext it) (fun r s1=>(r=none/\R (.ok .next) s1)\/∃v,r=some v /\
  wpAny (model prog w) A (letOwnedTupleGo target it v) (fun _ s2=>wpAny (model prog w) A (assign target env v) (fun _ s3=>
   wpAny (model prog w) A (forIn ifs true fun c r=>if r=true then(do
    let ok <- isTrue c env (eval c env)
    pure (ForInStep.yield ok))else pure (ForInStep.yield r)) (fun ok s4=>
     (ok=true/\wpAny (model prog w) A (eval elt env) (fun x s5=>wpAny (model prog w) A (call (.builtin "list.append") [acc,x]) (fun _ s6=>∃m,m<n/\I m s6) (fun _ _=>False) s5) (fun _ _=>False) s4) \/
     (ok=false/\∃m,m<n/\I m s4)) (fun _ _=>False) s3) (fun _ _=>False) s2) (fun _ _=>False) s1) (fun _ _=>False) s)
 (n:Nat) (h:I n s):codeAny (model prog w) A (.compLoop (.ListComp elt [⟨target,iter,ifs,0⟩] scope pos) 0 it acc env) R s:=by
 refine codeAny_loop rfl I (fun n s hI=>?_) n h
 show wpAny _ A ((compTurn (.ListComp elt [⟨target,iter,ifs,0⟩] scope pos) 0 it acc env).onRaise fun x=>do
  noteFrame x env
  theTreesLotGoes x) _ _ s
 refine wpAny_noted ?_;rw[compTurn_list];refine A1 (Z4 (A1 (E1 (turn n s hI) (fun r s1 h1=>?_) fun _ _ f=>f.elim)));rcases h1 with⟨rfl,h1⟩|⟨v,rfl,h1⟩
 .exact B5 h1
 .refine A1 (E1 h1 (fun _ s2 h2=>?_) fun _ _ f=>f.elim);refine A1 (E1 h2 (fun _ s3 h3=>?_) fun _ _ f=>f.elim);refine A1 (E1 h3 (fun ok s4 h4=>?_) fun _ _ f=>f.elim);rcases h4 with⟨rfl,h4⟩|⟨rfl,h4⟩
  .refine A1 (A1 (E1 h4 (fun x s5 h5=>?_) fun _ _ f=>f.elim));exact A1 (E1 h5 (fun _ s6 h6=>B5 (B5 ⟨rfl,h6⟩)) fun _ _ f=>f.elim)
  .exact B5 ⟨rfl,h4⟩
end
noncomputable def fK(X:Cx)(N':List Str)(scope:Scope)(C:Addr)(s2:Shared)(H2:Hp)(fp:List Addr)(pn:List (Addr×Obj)):Cx:=
 { X with N:=N',s₀:=s2,H₀:=H2,env:=compEnvC scope (fW X.env scope.names []) C X.env,outer:=X.stack,stack:=X.stack,ex:=fp,fn:=fun _=>false,pn:=X.pn++pn,xe:=fun _ _=>False }
noncomputable def yA(cap:List (Option Nat))(σ:St):St:=cap.map fun o=>o.bind fun j=>(σ[j]?).join
structure pW(X:Cx)(N':List Str)(cap:List (Option Nat))(scope:Scope):Prop where
 nocell:∀y∈scope.names,y.2≠.cell
 kind:scope.kind=.function
 names:∀y∈scope.names,y.2=.local->scope.names.lookup y.1=some .local
 frees:∀y∈scope.names,y.2=.free->X.env.kindOf y.1=some .cell\/X.env.kindOf y.1=some .free
 len:cap.length=N'.length
 cap:∀(i j:Nat),cap[i]?=some (some j)->∃x,N'[i]?=some x/\X.N[j]?=some x/\scope.names.lookup x=some .free
section
variable{X:Cx}{N':List Str}{cap:List (Option Nat)}{scope:Scope}{pins:List (Addr×Obj)}{σ:St}{H:Hp}{s:Shared}
theorem pW.cells(S:pW X N' cap scope)(ok:X.Ok):∀y∈scope.names,y.2=.free->∃c,X.env.cells.lookup y.1=some c:=fun y hy hk=>ok.has y.1 (S.frees y hy hk)
theorem pW.sub(S:pW X N' cap scope)(ok:X.Ok):∀x c,(fW X.env scope.names []).lookup x=some c->X.env.cells.lookup x=some c:=
 ER scope.names [] (S.cells ok) fun x c e=>by simp at e
theorem pW.kinds(S:pW X N' cap scope){C:Addr}{cl:List (Str×Addr)}{x:Str}(h:(compEnvC scope cl C X.env).kindOf x=some .cell\/(compEnvC scope cl C X.env).kindOf x=some .free):scope.names.lookup x=some .free:=by
 rcases h with h|h
 .rcases tL (names:=scope.names) h with q|⟨q,_⟩
  .exact absurd rfl (S.nocell _ (F4 q))
  .exact q
 .rcases tL (names:=scope.names) h with q|⟨q,_⟩
  .exact q
  .exact q
theorem Inv.stkAll(I:Inv X pins σ H s){b:Addr}(h1:b≠X.env.locals)(h2:b∉X.fs):b∉frs X.stack:=fun hb=>(List.mem_cons.mp (I.stkSub b hb)).elim h1 h2
theorem KM(S:pW X N' cap scope)(I:Inv X pins σ H s){fp:List Addr}{h4:Heap}{C:Addr}{tk:Nat}(hf:∀b∈fp,pY X pins H b)(hlt:∀b∈fp,b<s.heap.objs.size)
 (hC:s.heap.objs.size<=C) (hn:h4.Ns C fun _=>none) (hk:∀b o,s.heap.get? b=some o->h4.get? b=some o):
 Inv (fK X N' scope C s H fp pins) [] (yA cap σ) H { s with heap:=h4,toks:=tk }:=by
 have cellLt:∀x c,X.env.cells.lookup x=some c->c<s.heap.objs.size:=fun x c e=>by
  obtain⟨v,q⟩:=I.cell x c e;exact q.lt
 have fresh:H C=none:=I.hok.fresh hC
 have ok:(fK X N' scope C s H fp pins).Ok:=by
  refine⟨I.ok.mod,S.kind,I.ok.glob,I.ok.blt,hC,fun x y c h1 h2=>?_,fun x hx=>?_,fun x c hx _=>?_,I.ok.hd,I.ok.frames,.inl rfl,fun b hb=>⟨?_,fun x c e=>?_⟩,I.bs,F0 I.ok.bsz I.sz,fun b o e hb=>?_,fun b hb=>?_,I.stack,I.stkFree⟩
  .exact I.ok.inj x y c (S.sub I.ok x c h1) (S.sub I.ok y c h2)
  .exact vU scope.names [] x (.inl (F4 (S.kinds hx)))
  .exact absurd hx (by show ¬(false=true);decide)
  .exact C7 (C3 (hlt b hb) hC)
  .exact(hf b hb).2.2.2.2.1 x c (S.sub I.ok x c e)
  .rcases (hf b hb).2.2.2.1 with z|z
   .exact I.ok.noex b o e z
   .exact absurd (C3 (B9 (I.ok.bs b o e).1) z) (F8 _)
  .exact I.stkAll (hf b hb).2.1 (hf b hb).2.2.1
 refine⟨ok,rfl,I.bare,Un.kept hk,⟨_,hn,fun i x v h1 h2 h3=>?_⟩,fun x c e=>?_,fresh,fun x c e=>I.freeC x c (S.sub I.ok x c e),fun p hp=>?_,I.hok.kept hk,?_⟩
 .-- a name that is caught
  have h2':(cap[i]?).map (fun o=>o.bind fun j=>(σ[j]?).join)=some (some v):=by
   have:(yA cap σ)[i]?=some (some v):=h2;unfold yA at this;rw[C8]at this;exact this
  cases e:cap[i]? with
  |none=>rw[e]at h2';simp at h2'
  |some o=>
   cases o with
   |none=>rw[e]at h2';simp at h2'
   |some j=>
    rw[e]at h2';obtain⟨x',a1,a2,a3⟩:=S.cap i j e
    have ex:x'=x:=by
     have:N'[i]?=some x:=h1;rw[a1]at this;exact D5 this
    subst ex
    have sv:σ[j]?=some (some v):=by
     have q:(σ[j]?).join=some v:=D5 h2';cases f:σ[j]? with
     |none=>rw[f]at q;simp at q
     |some o=>rw[f]at q;cases o with
      |none=>simp at q
      |some v'=>simp at q;rw[q]
    have hv:X.env.kindOf x'=some .cell\/X.env.kindOf x'=some .free:=S.frees _ (F4 a3) rfl;obtain⟨m,hm,hl⟩:=I.loc;obtain⟨u,r,l⟩:=hl j x' v a2 sv (hv.elim (fun z=>.inr (.inl z)) fun z=>.inr (.inr z));refine⟨u,r,.inr ⟨?_,?_⟩⟩
    .exact zD (env:=X.env) (names:=scope.names) a3
    .rcases l with⟨hk',_⟩|⟨_,c,hc,o,ho,hd⟩
     .rcases hv with z|z<;>rw[z]at hk'<;>cases hk'
     .obtain⟨c',hc'⟩:=vU (env:=X.env) scope.names [] x' (.inl (F4 a3));have:=S.sub I.ok x' c' hc';rw[hc]at this;cases this;exact⟨c,hc',o,hk c o ho,hd⟩
 .obtain⟨v,o,ho,hd⟩:=I.cell x c (S.sub I.ok x c e);exact⟨v,o,hk c o ho,hd⟩
 .have hp':p∈X.pn++pins:=by
   rcases List.mem_append.mp hp with z|z
   .exact z
   .exact absurd z (by simp)
  obtain⟨e,n,ne,nf,d⟩:=I.pin p hp';exact⟨hk _ _ e,n,C7 (C3 (B9 e) hC),I.stkAll ne nf,d⟩
 .show(yA cap σ).length=N'.length;unfold yA;rw[A2];exact S.len
end
noncomputable def tLc(cap:List (Option Nat))(wi:TI)(g:TG)(tc:TT)(te:TE):TE:=fun σ H Q=>wi σ H fun J H1=>∃W:Nat->Nat->List V->St->Hp->Prop,(∃m,W 0 m [] (yA cap σ) H1)/\∀i m acc σ' H',W i m acc σ' H'->
 (J.stop i H'/\∀p,H' p=none->Q (.ref p) (upd H' p (.lst acc))) \/
 (J.go i H'/\acc.length<sizeLine/\∃N:List V->St->Hp->Prop,(∀acc' σ2 H2,N acc' σ2 H2->∃m',m'<m/\W (i+1) m' acc' σ2 H2)/\∀x H2,J.yld i H' x H2->g x σ' H2 fun σ2 H3=>tc σ2 H3 fun b H4=>(b=true/\te σ2 H4 fun v H5=>N (acc++[v]) σ2 H5)\/(b=false/\N acc σ2 H4))
section
variable{X:Cx}{N':List Str}{cap:List (Option Nat)}{scope:Scope}
theorem XN{elt tg iter:Expr}{ifs:List Expr}{pos:Pos}{wi:TI}{g:TG}{tc:TT}{te:TE}(hc:X.calm=true)(S:pW X N' cap scope)(hi:PI X tg iter wi)
 (hg:∀C s H fp pn,PG (fK X N' scope C s H fp pn) tg g) (hif:∀C s H fp pn,HV (fK X N' scope C s H fp pn) ifs tc) (he:∀C s H fp pn,PE (fK X N' scope C s H fp pn) elt te)
 (hs:∀x,foldedSetIterable iter X.env x=pure x) {pins:List (Addr×Obj)} {s:Shared} {σ:St} {H:Hp} {Q:VK} (I:Inv X pins σ H s) (h:tLc cap wi g tc te σ H Q)
 {use:Option (Value->Sem Unit)} {QQ:Value->Shared->Prop}
 (post:∀(D C:Addr)(H':Hp)(acc:List V)(s':Shared),D≠C->(∃m,s'.heap.Ns C m)->(∀h',Heap.SameBut C s'.heap h'->Inv X pins σ (upd H' D (.lst acc)) { s' with heap:=h' })->pY X pins (upd H' D (.lst acc)) C->Q (.ref D) (upd H' D (.lst acc))->compPost (model X.prog X.w) X.A X.xe use QQ (.ref D) C (.ok .next) s'):
 wpAny (model X.prog X.w) X.A (comprehension (.ListComp elt [⟨tg,iter,ifs,0⟩] scope pos) scope X.env (firstIterPos [⟨tg,iter,ifs,0⟩] pos) (newList []) false (firstIter [⟨tg,iter,ifs,0⟩] X.env) use) QQ X.xe s:=by
 refine wpAny_comprehension_free (e:=.ListComp elt [⟨tg,iter,ifs,0⟩] scope pos) (g:=⟨tg,iter,ifs,0⟩) (gs:=[]) rfl hs (BS (S.cells I.ok)) S.kind S.names ?_;refine thn (hi pins s σ H _ I h) fun v s1 h1=>thn h1 fun itv s2 h2=>?_;obtain⟨it,fp,tn,J,H2,e,I2,T,st2,f2,W,⟨m0,w0⟩,turn⟩:=h2;subst e
 have fplt:∀b∈fp,b<s2.heap.objs.size:=fun b hb=>by
  obtain⟨o,e,_⟩:=T.obj _ _ st2 b hb;exact B9 e
 refine E2 (wpAny_newFunctionEnv S.nocell (fun y hy=>by simp at hy) (fun h1' hns hsb=>?_) S.kind);dsimp only at hns hsb ⊢;generalize hP:s2.heap.push { cls:=.type "list",dict:=none,data:=.seq ([]:List Value).toArray }=P2 at hns hsb ⊢;have hsz:P2.objs.size=s2.heap.objs.size+1:=by rw[<- hP,Heap.size_push]
 have hDC:s2.heap.objs.size≠P2.objs.size:=by rw[hsz];exact C7 (J5 _)
 have hC:s2.heap.objs.size<=P2.objs.size:=by rw[hsz];exact A0a _
 have keepP:∀b o,P2.get? b=some o->b≠P2.objs.size->h1'.get? b=some o:=fun b o e hb=>hsb.extBut b o hb (A4 _ e);have old:∀b o,s2.heap.get? b=some o->h1'.get? b=some o:=fun b o e=>keepP b o (by rw[<- hP];exact A4 _ e) (C7 (C3 (B9 e) hC));have hD0:h1'.get? s2.heap.objs.size=some { cls:=.type "list",data:=.seq #[] 0 }:=keepP _ _ (by rw[<- hP];exact D1 _ rfl) hDC
 have I4:Inv (fK X N' scope P2.objs.size s2 H2 fp pins) [] (yA cap σ) H2 { s2 with heap:=h1',toks:=s2.toks+([]:List (Str×Value)).length }:=
  KM S I2 f2 fplt hC (by simpa using hns) old
 have loop:∀s4:Shared,s4={ s2 with heap:=h1',toks:=s2.toks+([]:List (Str×Value)).length }->
  codeAny (model X.prog X.w) X.A (.compLoop (.ListComp elt [⟨tg,iter,ifs,0⟩] scope pos) 0 (.ref it) (.ref s2.heap.objs.size) (compEnvC scope (fW X.env scope.names []) P2.objs.size X.env)) (compPost (model X.prog X.w) X.A X.xe use QQ (.ref s2.heap.objs.size) P2.objs.size) s4:=by
  rintro s4 rfl
  have hfrD:s2.heap.objs.size∉frs X.stack:=fun hb=>by
   obtain⟨_,o,ho,_⟩:=I2.stack.mem hb;exact absurd (B9 ho) (F8 _)
  have cne:∀x c,(fW X.env scope.names []).lookup x=some c->c<s2.heap.objs.size:=fun x c e=>by
   obtain⟨v,q⟩:=I2.cell x c (S.sub I2.ok x c e);exact q.lt
  have stat:∀{Hx:Hp}{ob:Obj},(∀b∈fp,Hx b=none)->∀b∈fp,pY (fK X N' scope P2.objs.size s2 H2 fp pins) [(s2.heap.objs.size,ob)] Hx b:=fun{Hx ob} hn b hb=>by
   refine⟨hn b hb,C7 (C3 (fplt b hb) hC),I2.stkAll (f2 b hb).2.1 (f2 b hb).2.2.1,.inl hb,fun x c e=>(f2 b hb).2.2.2.2.1 x c (S.sub I2.ok x c e),fun p hp=>?_⟩;rcases List.mem_append.mp hp with z|z
   .exact(f2 b hb).2.2.2.2.2 p z
   .rw[List.mem_singleton.mp z];exact Nat.ne_of_gt (fplt b hb)
  refine aBn (fun n s'=>∃(i:Nat)(σ':St)(H':Hp)(acc:List V)(its:List Value)(nn:Nat),Inv (fK X N' scope P2.objs.size s2 H2 fp pins) [] σ' H' s'/\tn i s'.heap/\(∀b∈fp,H' b=none)/\H' s2.heap.objs.size=none /\
   s'.heap.get? s2.heap.objs.size=some { cls:=.type "list",data:=.seq its.toArray nn }/\bE acc its/\acc.length<=sizeLine/\W i n acc σ' H') ?_ m0
   ⟨0,yA cap σ,H2,[],[],0,I4,T.keep _ _ _ st2 fun b _ o e=>old b o e,fun b hb=>(f2 b hb).1,I2.hok.fresh (A6 _),hD0,.nil,E5 _,w0⟩
  rintro n s5 ⟨i,σ',H',acc,its,nn,I5,t5,fr5,d5,g5,va,la,w5⟩
  have I5p:Inv (fK X N' scope P2.objs.size s2 H2 fp pins) [(s2.heap.objs.size,{ cls:=.type "list",data:=.seq its.toArray nn })] σ' H' s5:=I5.pins_of fun p hp=>by
   rw[List.mem_singleton.mp hp];exact⟨g5,d5,hDC,hfrD,fun v z=>by cases z⟩
  rcases turn i n acc σ' H' w5 with⟨stop,q⟩|⟨go,lt,N,hN,step⟩
  .refine thn (T.done (fK X N' scope P2.objs.size s2 H2 fp pins) rfl rfl rfl hc i _ s5 σ' H' _ I5p (stat fr5) t5 stop) fun r s6 ⟨hr,I6⟩=>.inl ⟨hr,?_⟩;have d6:=(I6.pin (s2.heap.objs.size,{ cls:=.type "list",data:=.seq its.toArray nn }) (by simp)).1;have nC:H' P2.objs.size=none:=I6.free;refine post _ _ H' acc s6 hDC (let⟨m,hn,_⟩:=I6.loc;⟨m,hn⟩) (fun h' hs'=>?_) (I2.fpOk hC (by rw[aV hDC.symm];exact nC)) (q _ d5);have up:∀b o,b≠P2.objs.size->s6.heap.get? b=some o->h'.get? b=some o:=fun b o hb e=>hs'.extBut b o hb e;have ltC:∀b o,s2.heap.get? b=some o->b≠P2.objs.size/\b≠s2.heap.objs.size:=fun b o e=>⟨C7 (C3 (B9 e) hC),C7 (B9 e)⟩;have u6:Un (frs X.stack) fp H2 H' s2.heap s6.heap:=I6.base
   have u7:Un (frs X.stack) fp H2 (upd H' s2.heap.objs.size (.lst acc)) s2.heap h':=by
    refine⟨fun b o e n hb hx=>up b o (ltC b o e).1 (u6.keep b o e n hb hx),fun b o e n hb hx=>?_,fun b o e n hx=>?_,fun b o e hx=>?_,fun b xs e=>?_,fun b o u e=>?_,fun b ps e=>?_⟩
    .obtain⟨sl,q⟩:=u6.slot b o e n hb hx;exact⟨sl,up b _ (ltC b o e).1 q⟩
    .rw[aV (ltC b o e).2];exact u6.free b o e n hx
    .obtain⟨o',q⟩:=u6.there b o e hx;exact⟨o',up b o' (ltC b o e).1 q⟩
    .have z:=u6.tups b xs e;rw[aV (aU z d5)];exact z
    .have z:=u6.frzs b o u e;rw[aV (aU z d5)];exact z
    .obtain⟨more,z⟩:=u6.tbls b ps e;exact⟨more,by rw[aV (aU z d5)];exact z⟩
   have ok7:HOk X.prog X.w (upd H' s2.heap.objs.size (.lst acc)) h':=fun b u e=>by
    by_cases hb:b=s2.heap.objs.size
    .subst hb;rw[aY]at e;cases e;exact⟨la,its,nn,va,up _ _ hDC d6⟩
    .rw[aV hb]at e;refine(I6.hok b u e).stay (fun c v hc' z=>up c v ?_ z) (fun c z=>by rw[aV (aU z d5)];exact z) fun c xs z=>by rw[aV (aU z d5)];exact z
     rcases hc' with rfl|z
     .exact aU e nC
     .exact aU z nC
   have os6:s6.os=s2.os:=I6.os;have ba6:=I6.bare;obtain⟨hh,gg,dd,tt,oo⟩:=s6;subst os6;have z7:=I2.call (s:=s2) (h':=h') (g':=gg) (d':=dd) (t':=tt) (ch:=fp) u7 ok7 ba6 fun b hb=>⟨(f2 b hb).2.2.2.1,(f2 b hb).2.1,(f2 b hb).2.2.2.2.1,(f2 b hb).2.2.2.2.2⟩;exact z7
  .refine thn (T.item (fK X N' scope P2.objs.size s2 H2 fp pins) rfl rfl rfl hc i _ s5 σ' H' _ I5p (stat fr5) t5 go) fun r s6 ⟨u,hr,h6⟩=>.inr ⟨u,hr,?_⟩;refine thn h6 fun _ s7 ⟨x,H7,I7,r7,y7,t7,fr7⟩=>?_;have I7':=I7.pinned (stat fr7) (T.obj _ _ t7)
   have back:∀{σx:St}{Hx:Hp}{sx:Shared},Inv (fK X N' scope P2.objs.size s2 H2 fp pins) ([(s2.heap.objs.size,{ cls:=.type "list",data:=.seq its.toArray nn })]++wH fp s7.heap) σx Hx sx->
    (∀b∈fp,∀o,s7.heap.get? b=some o->sx.heap.get? b=some o)/\(∀b∈fp,Hx b=none)/\sx.heap.get? s2.heap.objs.size=some { cls:=.type "list",data:=.seq its.toArray nn }/\Hx s2.heap.objs.size=none:=fun{σx Hx sx} Ix=>by
    refine⟨fun b hb o e=>(Ix.pin (b,o) (C0 _ (C0 _ (iP hb e)))).1,fun b hb=>?_,?_,?_⟩
    .obtain⟨o,e,_⟩:=T.obj _ _ t7 b hb;exact(Ix.pin (b,o) (C0 _ (C0 _ (iP hb e)))).2.1
    .exact(Ix.pin (s2.heap.objs.size,_) (C0 _ (C9 _ (List.mem_singleton.mpr rfl)))).1
    .exact(Ix.pin (s2.heap.objs.size,{ cls:=.type "list",data:=.seq its.toArray nn }) (C0 _ (C9 _ (List.mem_singleton.mpr rfl)))).2.1
   refine thn (hg _ _ _ _ _ _ s7 σ' H7 x u _ I7' r7 (step x H7 y7)) fun _ s8 ⟨σ8,H8,I8,q8⟩=>?_;refine thn (hif _ _ _ _ _ _ s8 σ8 H8 _ I8 q8) fun b s9 ⟨H9,I9,q9⟩=>?_;rcases q9 with⟨rfl,q9⟩|⟨rfl,n9⟩
   .refine .inl ⟨rfl,thn (he _ _ _ _ _ _ s9 σ8 H9 _ I9 q9) fun uv s10 ⟨v,H10,I10,rv,n10⟩=>?_⟩;obtain⟨m',hm,w10⟩:=hN _ _ _ n10;obtain⟨b1,b2,b3,b4⟩:=back I10;refine wpAny_list_append_plain ⟨nn,b3⟩ (fun h' hp hs'=>?_) (by rw[C5,<- va.length];exact la);obtain⟨n2,e2⟩:=hp;have up:∀b o,b≠s2.heap.objs.size->s10.heap.get? b=some o->h'.get? b=some o:=fun b o hb e=>hs'.extBut b o hb e;have I10':Inv (fK X N' scope P2.objs.size s2 H2 fp pins) [] σ8 H10 s10:=I10.pins_of fun p hp=>absurd hp (by simp);refine⟨m',hm,i+1,σ8,H10,acc++[v],its++[uv],n2,I10'.turned (t':=s10.toks) up b4 hDC (.inr (A6 _)) (fun x c e=>C7 (cne x c e)) (fun p hp=>?_),T.keep _ _ _ t7 fun b hb o e=>up b o (C7 (fplt b hb)) (b1 b hb o e),b2,b4,?_,va.append (.cons rv .nil),?_,w10⟩
    .have hp':p∈X.pn++pins:=by
      rcases List.mem_append.mp hp with z|z
      .exact z
      .exact absurd z (by simp)
     exact C7 (B9 (I2.pin p hp').1)
    .rw[e2];simp
    .rw[B4,C6];exact lt
   .obtain⟨m',hm,w9⟩:=hN _ _ _ n9;obtain⟨b1,b2,b3,b4⟩:=back I9;exact .inr ⟨rfl,m',hm,i+1,σ8,H9,acc,its,nn,I9.pins_of fun p hp=>absurd hp (by simp),T.keep _ _ _ t7 b1,b2,b4,b3,va,la,w9⟩
 exact codeAny_compStart_list (loop _ rfl) (T.self _ 0 _ _ _ (T.keep _ _ _ st2 fun b _ o e=>old b o e) (loop _ rfl))
theorem aIw{elt tg iter:Expr}{ifs:List Expr}{pos:Pos}{wi:TI}{g:TG}{tc:TT}{te:TE}(hc:X.calm=true)(S:pW X N' cap scope)(hi:PI X tg iter wi)
 (hg:∀C s H fp pn,PG (fK X N' scope C s H fp pn) tg g) (hif:∀C s H fp pn,HV (fK X N' scope C s H fp pn) ifs tc) (he:∀C s H fp pn,PE (fK X N' scope C s H fp pn) elt te)
 (hs:∀x,foldedSetIterable iter X.env x=pure x:=by intro _;rfl):PE X (.ListComp elt [⟨tg,iter,ifs,0⟩] scope pos) (tLc cap wi g tc te):=by
 intro pins s σ H Q I h;rw[eval_ListComp];refine XN (use:=none) (Q:=Q) hc S hi hg hif he hs I h fun D C H' acc s' hDC ⟨m,hn⟩ hI _ hq=>⟨m,hn,fun h' hs'=>?_⟩;exact⟨.ref D,_,hI h' hs',rfl,hq⟩
theorem WS{i:Nat}{x:Str}{elt tg iter:Expr}{ifs:List Expr}{pos pos' pos'':Pos}{wi:TI}{g:TG}{tc:TT}{te:TE}(hN:X.N.Nodup)(hix:X.N[i]?=some x)(hc:X.calm=true)(S:pW X N' cap scope)(hi:PI X tg iter wi)
 (hg:∀C s H fp pn,PG (fK X N' scope C s H fp pn) tg g) (hif:∀C s H fp pn,HV (fK X N' scope C s H fp pn) ifs tc) (he:∀C s H fp pn,PE (fK X N' scope C s H fp pn) elt te)
 (hsw:swapsWith (.ListComp elt [⟨tg,iter,ifs,0⟩] scope pos) (some (.Name x pos')) pos''.line X.env=pure true:=by rfl) (hx:X.env.scope.names.lookup x=some .local:=by rfl)
 (hs:∀x,foldedSetIterable iter X.env x=pure x:=by intro _;rfl):PS X (.Assign [.Name x pos'] (.ListComp elt [⟨tg,iter,ifs,0⟩] scope pos) pos'') (WI (tLc cap wi g tc te) (zT i)):=by
 intro pins s σ H D I h;rw[exec_Assign_Name_used _ _ _ _ hsw];refine A1 (Z4 (A1 ?_));show wpAny _ _ (comprehension (.ListComp elt [⟨tg,iter,ifs,0⟩] scope pos) scope X.env _ (newList []) false (firstIter [⟨tg,iter,ifs,0⟩] X.env) (some (assign (.Name x pos') X.env)) >>= fun _=>pure ()) _ _ s;refine A1 (thn (XN (use:=some (assign (.Name x pos') X.env)) (QQ:=fun _ s'=>∃σ' H',Inv X pins σ' H' s'/\D.nx σ' H') (Q:=fun v H1=>zT i v σ H1 D.nx) hc S hi hg hif he hs I h fun E C H' acc s' hDC ⟨m,hn⟩ hI fC hq=>?_) fun _ s' hz=>B5 (B5 hz));have I1:Inv X pins σ (upd H' E (.lst acc)) s':=hI s'.heap (Heap.SameBut.refl ..);have I1:Inv X pins σ (upd H' E (.lst acc)) s':=I1;refine wpAny_assign_Name (vT (M:=model X.prog X.w) (A:=X.A) (E:=X.xe) I1 hN hix (.inl hx) (v:=.ref E) (u:=.ref E) rfl (fun s2 I2 hsb=>?_) (.inr hx));obtain⟨a,hs2,ha⟩:=hsb
 have hne:C≠a:=by
  rcases ha with z|z
  .rw[z];exact fC.2.1
  .exact fun w=>fC.2.2.2.2.1 x a z w.symm
 refine⟨m,hn.extBut hs2.extBut hne,fun h' hs'=>?_⟩;exact⟨_,_,I2.turned (t':=s2.toks) (fun b o hb e=>hs'.extBut b o hb e) fC.1 fC.2.1 fC.2.2.2.1 fC.2.2.2.2.1 fC.2.2.2.2.2,hq⟩
end
noncomputable def aIS:Key->PyData
 |.inl i=>.int i
 |.inr x=>.str x
mutual
noncomputable def Rep(K:Fg)(H:Hp):PyData->V->Prop
 |.none,v=>v=.non
 |.bool b,v=>v=.bl b
 |.int i,v=>v=.int i
 |.str x,v=>v=.str x
 |.list xs,v=>∃a vs,v=.ref a/\SqL K H a vs/\aL K H xs vs
 |.tuple xs,v=>∃a vs,v=.ref a/\SqT K H a vs/\aL K H xs vs
 |.dict kvs,v=>∃a ks,v=.ref a/\H a=some (.dK ks)/\rB K H kvs ks
noncomputable def aL(K:Fg)(H:Hp):List PyData->List V->Prop
 |[],vs=>vs=[]
 |d::ds,vs=>∃v r,vs=v::r/\Rep K H d v/\aL K H ds r
noncomputable def rB(K:Fg)(H:Hp):List (PyData×PyData)->List (Key×V)->Prop
 |[],ks=>ks=[]
 |(k,d)::kvs,ks=>∃k' v r,ks=(k',v)::r/\k=aIS k'/\Rep K H d v/\rB K H kvs r
end
theorem jQ.seqT{a:Addr}{xs:List V}(e:jQ H H')(h:SqT K H a xs):SqT K H' a xs:=by
 rcases h with h|h
 .refine .inl ?_;rcases h with h|⟨o,h⟩
  .exact .inl (e _ _ h)
  .exact .inr ⟨o,e _ _ h⟩
 .exact .inr h
mutual
theorem Rep.same{K:Fg}{H H':Hp}(e:jQ H H'):∀(d:PyData)(v:V),Rep K H d v->Rep K H' d v
 |.none=>fun v h=>h
 |.bool b=>fun v h=>h
 |.int i=>fun v h=>h
 |.str x=>fun v h=>h
 |.list xs=>fun v h=>by
  obtain⟨a,vs,h1,h2,h3⟩:=h;exact⟨a,vs,h1,e.seq h2,aL.same e xs vs h3⟩
 |.tuple xs=>fun v h=>by
  obtain⟨a,vs,h1,h2,h3⟩:=h;exact⟨a,vs,h1,e.seqT h2,aL.same e xs vs h3⟩
 |.dict kvs=>fun v h=>by
  obtain⟨a,ks,h1,h2,h3⟩:=h;exact⟨a,ks,h1,e _ _ h2,rB.same e kvs ks h3⟩
theorem aL.same{K:Fg}{H H':Hp}(e:jQ H H'):∀(ds:List PyData)(vs:List V),aL K H ds vs->aL K H' ds vs
 |[]=>fun vs h=>h
 |d::ds=>fun vs h=>by
  obtain⟨v,r,h1,h2,h3⟩:=h;exact⟨v,r,h1,Rep.same e d v h2,aL.same e ds r h3⟩
theorem rB.same{K:Fg}{H H':Hp}(e:jQ H H'):∀(kvs:List (PyData×PyData))(ks:List (Key×V)),rB K H kvs ks->rB K H' kvs ks
 |[]=>fun ks h=>h
 |(k,d)::kvs=>fun ks h=>by
  obtain⟨k',v,r,h1,h2,h3,h4⟩:=h;exact⟨k',v,r,h1,h2,Rep.same e d v h3,rB.same e kvs r h4⟩
end
theorem aL.length{K:Fg}{H:Hp}:∀{ds:List PyData}{vs:List V},aL K H ds vs->ds.length=vs.length
 |[],vs=>fun h=>by rw[show vs=[]from h];rfl
 |d::ds,vs=>fun h=>by
  obtain⟨v,r,h1,_,h3⟩:=h;rw[h1,D0,D0,aL.length h3]
theorem aL.get{K:Fg}{H:Hp}:∀{ds:List PyData}{vs:List V}{i:Nat}{v:V},aL K H ds vs->vs[i]?=some v->∃d,ds[i]?=some d/\Rep K H d v
 |[],vs,i,v=>fun h e=>by rw[show vs=[]from h]at e;simp at e
 |d::ds,vs,0,v=>fun h e=>by
  obtain⟨w,r,h1,h2,h3⟩:=h;rw[h1]at e;simp at e;subst e;exact⟨d,rfl,h2⟩
 |d::ds,vs,i+1,v=>fun h e=>by
  obtain⟨w,r,h1,h2,h3⟩:=h;rw[h1]at e;exact aL.get (i:=i) h3 (by simpa using e)
theorem aL.app{K:Fg}{H:Hp}:∀{ds es:List PyData}{vs ws:List V},aL K H ds vs->aL K H es ws->aL K H (ds++es) (vs++ws)
 |[],es,vs,ws=>fun h k=>by rw[show vs=[]from h];exact k
 |d::ds,es,vs,ws=>fun h k=>by
  obtain⟨v,r,h1,h2,h3⟩:=h;exact⟨v,r++ws,by rw[h1];rfl,h2,aL.app h3 k⟩
section
variable{X:Cx}{pins:List (Addr×Obj)}{σ:St}{H:Hp}{s:Shared}
theorem Inv.sysN(I:Inv X pins σ H s):H sysModules=none:=by
 obtain⟨o,es,ep,h,_⟩:=I.mod.sysm;exact(I.bs _ _ h).2
theorem Inv.sysL(I:Inv X pins σ H s){a:Addr}{xs:List V}(h:SqL X.K H a xs):sysModules≠a:=by
 intro e;subst e;have hn:=I.sysN;rcases h with(h|⟨o,h⟩)|⟨o,its,n,hk,_,_,hd,_⟩
 .rw[hn]at h;cases h
 .rw[hn]at h;cases h
 .obtain⟨o',es,ep,h',hd'⟩:=I.mod.sysm;have:=I.mod.kin _ _ hk;rw[h']at this;cases this;rw[hd]at hd';cases hd'
mutual
theorem Rep.reads'(I:Inv X pins σ H s):∀(d:PyData)(v:V)(u:Value),Rep X.K H d v->RelV v u->∃as,Reads s.heap u d as/\sysModules∉as
 |.none=>fun v u r q=>by
  rw[show v=.non from r]at q;rw[show u=Value.none from q];exact⟨_,.none,by simp⟩
 |.bool b=>fun v u r q=>by
  rw[show v=.bl b from r]at q;rw[show u=Value.bool b from q];exact⟨_,.bool b,by simp⟩
 |.int i=>fun v u r q=>by
  rw[show v=.int i from r]at q;obtain⟨t,rfl⟩:=(show ∃t,u=Value.int i t from q);exact⟨_,.int i t,by simp⟩
 |.str x=>fun v u r q=>by
  rw[show v=.str x from r]at q;obtain⟨t,rfl⟩:=(show ∃t,u=Value.str x t from q);exact⟨_,.str x t,by simp⟩
 |.list xs=>fun v u r q=>by
  obtain⟨a,vs,rfl,h2,h3⟩:=r;rw[show u=Value.ref a from q];obtain⟨its,hv,⟨o,n,hg,hc,_,hd⟩,_⟩:=I.list h2;obtain⟨as,ha,hs⟩:=aL.reads' I xs vs its h3 hv;exact⟨_,.list hg hc hd (by simpa using ha),fun z=>(List.mem_cons.mp z).elim (I.sysL h2) hs⟩
 |.tuple xs=>fun v u r q=>by
  obtain⟨a,vs,rfl,h2,h3⟩:=r;rw[show u=Value.ref a from q];obtain⟨its,hv,⟨o,hg,hc,n,hd⟩,_⟩:=I.tuple h2;obtain⟨as,ha,hs⟩:=aL.reads' I xs vs its h3 hv;exact⟨_,.tuple hg hc hd (by simpa using ha),hs⟩
 |.dict kvs=>fun v u r q=>by
  obtain⟨a,ks,rfl,h2,h3⟩:=r;rw[show u=Value.ref a from q];obtain⟨_,hS,vs,hkv,o,es,ep,hg,hex,hd,_,hp,_⟩:=(show eL X.prog X.w H s.heap a (.dK ks)from I.hok a _ h2);obtain⟨as,bs,h4,h5,n1,n2⟩:=rB.reads' I kvs ks vs es.toList h3 hkv hp;refine⟨_,.dict hg hex.1 hd h4 h5,fun z=>?_⟩;rcases List.mem_append.mp z with z|z
  .rcases List.mem_cons.mp z with z|z
   .rw[z]at hS;simp at hS
   .exact n1 z
  .exact n2 z
theorem aL.reads'(I:Inv X pins σ H s):∀(ds:List PyData)(vs:List V)(us:List Value),aL X.K H ds vs->bE vs us->∃as,ReadsAll s.heap us ds as/\sysModules∉as
 |[]=>fun vs us r q=>by
  rw[show vs=[]from r]at q;cases q;exact⟨_,.nil,by simp⟩
 |d::ds=>fun vs us r q=>by
  obtain⟨v,t,rfl,h2,h3⟩:=r;cases q with
  |cons q1 q2=>
   obtain⟨as,ha,n1⟩:=Rep.reads' I d v _ h2 q1;obtain⟨bs,hb,n2⟩:=aL.reads' I ds t _ h3 q2;exact⟨_,.cons ha hb,fun z=>(List.mem_append.mp z).elim n1 n2⟩
theorem rB.reads'(I:Inv X pins σ H s):∀(kvs:List (PyData×PyData))(ks:List (Key×V))(vs:List (Key×Value))(es:List DictEntry),rB X.K H kvs ks->KV ks vs->Pairs (dS X.prog X.w) es vs->
 ∃as bs,ReadsAll s.heap (es.map (·.key)) (kvs.map (·.1)) as/\ReadsAll s.heap (es.map (·.val)) (kvs.map (·.2)) bs/\sysModules∉as/\sysModules∉bs
 |[]=>fun ks vs es r q p=>by
  rw[show ks=[]from r]at q;cases q;cases p;exact⟨_,_,.nil,.nil,by simp,by simp⟩
 |(k,d)::kvs=>fun ks vs es r q p=>by
  obtain⟨k',v,t,rfl,h1,h2,h3⟩:=r;cases q with
  |@cons _ kv _ vs' q1 q2=>
   cases p with
   |@cons e _ es' _ p1 p2 p3=>
    obtain⟨as,bs,ha,hb,n1,n2⟩:=rB.reads' I kvs t _ _ h3 q2 p3;obtain⟨cs,hc,n3⟩:=Rep.reads' I d v _ h2 q1.2
    have hkey:Reads s.heap e.key k []:=by
     rw[h1];have p1':xY kv.1 e.key=true:=p1;rw[<- show k'=kv.1 from q1.1]at p1';rcases dG p1' with⟨i,t',rfl,he⟩|⟨x,t',rfl,he⟩
     .rw[he];exact .int i t'
     .rw[he];exact .str x t'
    refine⟨_,_,.cons hkey ha,.cons (show Reads s.heap e.val d cs by rw[p2];exact hc) hb,by simpa using n1,fun z=>(List.mem_append.mp z).elim n3 n2⟩
end
theorem Rep.reads(I:Inv X pins σ H s)(d:PyData)(v:V)(u:Value)(r:Rep X.K H d v)(q:RelV v u):∃as,Reads s.heap u d as:=let⟨as,h,_⟩:=Rep.reads' I d v u r q;⟨as,h⟩
theorem aL.reads(I:Inv X pins σ H s)(ds:List PyData)(vs:List V)(us:List Value)(r:aL X.K H ds vs)(q:bE vs us):∃as,ReadsAll s.heap us ds as:=let⟨as,h,_⟩:=aL.reads' I ds vs us r q;⟨as,h⟩
end
section
variable{X:Cx}
noncomputable def NT(K:Fg)(neg:Bool):R2:=fun x y H Q=>∃dx dy,Rep K H dx x/\Rep K H dy y/\SeqAt.shaped dx=true/\SeqAt.shaped dy=true/\Q (.bl (if neg then !PyData.eqv dx dy else PyData.eqv dx dy)) H
theorem YH(hu:X.A.units+64<cLine):OpR X (compareOp .Eq) (NT X.K false):=by
 intro pins s σ H x y v u Q I rx ry h;obtain⟨dx,dy,hx,hy,sx,sy,q⟩:=h;obtain⟨as,ha⟩:=Rep.reads I dx x v hx rx;obtain⟨bs,hb⟩:=Rep.reads I dy y u hy ry;exact eq_dataH ha hb sx sy hu ⟨.bl _,H,I,rfl,q⟩
theorem aGD(hu:X.A.units+64<cLine):OpR X (compareOp .NotEq) (NT X.K true):=by
 intro pins s σ H x y v u Q I rx ry h;obtain⟨dx,dy,hx,hy,sx,sy,q⟩:=h;obtain⟨as,ha⟩:=Rep.reads I dx x v hx rx;obtain⟨bs,hb⟩:=Rep.reads I dy y u hy ry;exact ne_dataH ha hb sx sy hu ⟨.bl _,H,I,rfl,q⟩
open Classical in
noncomputable def CL(h:Heap)(dv:PyData)(u:Value):Bool:=if ∃d as,Reads h u d as/\PyData.eqv d dv=true then true else false
theorem aDb{h:Heap}{dv d:PyData}{u:Value}{as:List Addr}(r:Reads h u d as)(hc:d.canLay0=true):CL h dv u=PyData.eqv d dv:=by
 unfold CL;by_cases e:PyData.eqv d dv=true
 .rw[A3 ⟨d,as,r,e⟩,e]
 .rw[A7,Bool.eq_false_iff.mpr e];rintro⟨d',as',r',e'⟩;have:=SeqAt.Reads.unique d d' u as as' hc r r';subst this;exact e e'
theorem zZ{A:Around}{s:Shared}{v:Value}{dv:PyData}{av:List Addr}(hv:Reads s.heap v dv av)(sv:SeqAt.shaped dv=true)(hu:A.units+64<cLine):
 ∀(us:List Value)(ds:List PyData)(as:List Addr),ReadsAll s.heap us ds as->ds.all SeqAt.shaped=true->(∀y∈us,SeqAt.EqAt A s y v (CL s.heap dv y))/\us.any (CL s.heap dv)=ds.any fun d=>PyData.eqv d dv
 |[]=>fun ds as r _=>by
  cases r;exact⟨fun y hy=>absurd hy (by simp),rfl⟩
 |y::us=>fun ds as r hs=>by
  cases r with
  |@cons _ _ d ds' as1 bs1 r1 r2=>
   rw[U5,B3]at hs;obtain⟨h1,h2⟩:=zZ hv sv hu us _ _ r2 hs.2;have e:=aDb (dv:=dv) r1 (O5 hs.1);have hy:SeqAt.EqAt A s y v (PyData.eqv d dv):=SeqAt.eqAt_reads d dv A s y v _ _ r1 hv (O5 hs.1) (O5 sv) (SeqAt.room_of_shaped hs.1 hu);refine⟨fun z hz=>?_,by rw[S0,S0,e,h2]⟩;rcases List.mem_cons.mp hz with q|q
   .rw[q,e];exact hy
   .exact h1 z q
noncomputable def aFb(K:Fg)(neg:Bool):R2:=fun x y H Q=>∃dx ds p vs,Rep K H dx x/\y=.ref p/\(SqL K H p vs\/SqT K H p vs)/\aL K H ds vs/\SeqAt.shaped dx=true/\ds.all SeqAt.shaped=true /\
 Q (.bl (if neg then !ds.any fun d=>PyData.eqv d dx else ds.any fun d=>PyData.eqv d dx)) H
theorem aGK(hu:X.A.in1.units+64<cLine):OpR X (compareOp .In) (aFb X.K false):=by
 intro pins s σ H x y v u Q I rx ry h;obtain⟨dx,ds,p,vs,hx,rfl,hp,hds,sx,sds,q⟩:=h;cases ry;obtain⟨as,ha⟩:=Rep.reads I dx x v hx rx;rcases hp with hp|hp
 .obtain⟨its,r,pl,hz⟩:=I.list hp;obtain⟨bs,hb⟩:=aL.reads I ds vs its hds r;obtain⟨h1,h2⟩:=zZ (A:=X.A.in1) ha sx hu its ds bs hb sds;refine SeqAt.in_listAt (CL s.heap dx) pl.isList (fun w hw=>h1 w (by simpa using hw)) ⟨.bl _,H,I,rfl,?_⟩;rw[show its.toArray.any (CL s.heap dx)=its.any (CL s.heap dx)by simp,h2];exact q
 .obtain⟨its,r,pl,hz⟩:=I.tuple hp;obtain⟨bs,hb⟩:=aL.reads I ds vs its hds r;obtain⟨h1,h2⟩:=zZ (A:=X.A.in1) ha sx hu its ds bs hb sds;refine SeqAt.in_tupleAt (CL s.heap dx) pl (fun w hw=>h1 w (by simpa using hw)) ⟨.bl _,H,I,rfl,?_⟩;rw[show its.toArray.any (CL s.heap dx)=its.any (CL s.heap dx)by simp,h2];exact q
theorem bE.types:∀{Ts:List String}{its:List Value},bE (Ts.map V.ty) its->its=Ts.map Value.type
 |[],_=>fun h=>by cases h;rfl
 |t::Ts,its=>fun h=>by
  cases h with
  |cons r1 r2=>rw[show _=Value.type t from r1,bE.types r2];rfl
theorem bE.bools:∀{bs:List Bool}{its:List Value},bE (bs.map V.bl) its->its=bs.map Value.bool
 |[],_=>fun h=>by cases h;rfl
 |b::bs,its=>fun h=>by
  cases h with
  |cons r1 r2=>rw[show _=Value.bool b from r1,bE.bools r2];rfl
theorem all_range(bs:List Bool):(List.range bs.length).all (fun i=>bs.getD i false)=bs.all id:=by
 rw[U1];simp only[List.all_eq_true,List.mem_range,id];constructor
 .intro h b hb;obtain⟨i,hi,rfl⟩:=List.mem_iff_getElem.mp hb;have:=h i hi;rw[B6,B8 hi]at this;exact this
 .intro h i hi;rw[B6,B8 hi];exact h _ (S1 hi)
theorem IQ{prog:Program}{w:World}{A:Around}{bs:List Bool}:TruthOf prog w A (fun i v=>(bs.map Value.bool).toArray[i]?=some v) (fun i=>bs.getD i false):=by
 intro i v s Q E hP hQ;rw[List.getElem?_toArray,C8]at hP;cases e:bs[i]? with
 |none=>rw[e]at hP;cases hP
 |some b=>
  rw[e]at hP;cases hP;have hb:bs.getD i false=b:=by rw[B6,e];rfl
  have hQ':Q (bs.getD i false) s:=hQ;rw[hb]at hQ';exact O4 hQ'
noncomputable def xO:Nat:=2 ^ 8000
noncomputable def XH(i:Int):Prop:=i.natAbs<xO
theorem KZ{j:Int}(h:XH j):j.natAbs.log2<9000:=by
 by_cases h0:j.natAbs=0
 .rw[h0];decide +kernel
 .exact Nat.lt_trans ((Nat.log2_lt h0).mpr h) (by decide)
noncomputable def aIB(i j:Int):Prop:=XH i/\XH j
theorem DY{j:Int}(h:XH j):Builtin.Int.intBits j<=2 ^ 20:=by
 unfold Builtin.Int.intBits;by_cases h0:(j==0)=true
 .rw[A3 h0];exact E5 _
 .rw[A7 h0];have:=KZ h;omega
end
structure Callee(P:Program)(w:World)(K:Fg)(mg:Str->Option Value)(base:Heap)(k:Nat)(x:Str)(ps:List Str)(sp:Sp)(q:Bool:=true):Prop where
 ex:∃f fd,oK P w K mg base CX0 k f fd ps sp q/\mg x=some (.ref f)/\PySem.W.keepIn K (.ref f)=true/\Binds K fd ps []
structure Def(K:Fg)(mg:Str->Option Value)(x:Str)(st:Stmt):Prop where
 ex:∃f fd,Fun K x x st f fd/\mg x=some (.ref f)
section
variable{P:Program}{w:World}{K:Fg}{mg:Str->Option Value}{base:Heap}{X:Cx}
theorem Def.ok{x:Str}{st:Stmt}{N ps:List Str}{k:Nat}{sp:Sp}{q:Bool}(D:Def K mg x st)(S:aX N ps (aI st))
 (hb:∀(kV doc pm:Value)(an:Option Addr)(cdv ct:Value)(us:List Value),us.length=ps.length->bindArgs (PySem.W.fnOf x x (gW st) (dB st) (aI st) .none kV doc pm an cdv ct) ⟨us,[]⟩=pure (ps.zip us))
 (len:∀vs H Q E,sp vs H Q E->vs.length=ps.length)
 (hbody:∀(f:Addr)(cdv:Value)(A:Around)(outer:List Env)(s:Shared)(H:Hp)(vs:List V)(Q:VK)(E:XK),eE k (A.deeper (envOfC x (aI st) s.heap.objs.size f cdv)) q->sp vs H Q E->
  ∃t,PSs (oO CX0 P w K mg base N x (aI st) f cdv A outer s H E q).nox (dB st) t/\t { nx:=fun _ H'=>Q .non H',rt:=Q } (start N vs) H):Callee P w K mg base (k+1) x ps sp q:=by
 obtain⟨f,fd,F,m⟩:=D.ex;exact⟨f,fd,F.ok S len fun cdv A outer s H vs Q E hr h=>hbody f cdv A outer s H vs Q E hr h,m,F.kp,F.binds hb⟩
theorem Callee.mono{j k:Nat}{x:Str}{ps:List Str}{sp:Sp}(C:Callee P w K mg base j x ps sp)(h:j<=k):Callee P w K mg base k x ps sp:=by
 obtain⟨f,fd,F,r⟩:=C.ex;exact⟨f,fd,F.mono h,r⟩
theorem def_mk{x:Str}{st:Stmt}{h:Heap}{f:Addr}{oc:Value}{od an:Option Addr}{osl:Array (Option Value)}{kV doc pm cdv ct:Value}(X:K.In h)(G:h.Ns mainGlobals mg)(a:PySem.W.nsIn K mainGlobals x=some (some (.ref f)))
 (l:K.lookup f=some ⟨oc,od,.func (PySem.W.fnOf x x (gW st) (dB st) (aI st) .none kV doc pm an cdv ct),osl⟩) (c:PySem.W.codeIn K cdv x=true) (k:PySem.W.keepIn K (.ref f)=true):Def K mg x st:=
 ⟨f,_,aGr l c k,PySem.W.mg_of X G a⟩
theorem aHj{k:Nat}{x:Str}{ps:List Str}{sp:Sp}{p pos:Pos}{e:Expr}{es:List Expr}{t:TA}{q:Bool}(C:Callee X.prog X.w X.K X.mg X.base k x ps sp q)(hr:eE k X.A q)(ha:PA X (e::es) t)(hg:Gl X x:=by rfl)
 (hdb:(x==("__debug__":Str))=false:=by decide) (he:starEach (e::es) X.env=(false,eval e X.env)::starEach es X.env:=by rfl) (hpl:(backTo pos (starEach es X.env)).any (·.1)=false:=by rfl):
 PE X (.Call (.Name x p) (e::es) [] pos) (WO sp [] E0 t):=by
 obtain⟨f,fd,F,m,kp,b⟩:=C.ex;exact OJ F hr hg m kp b .nil aHT ha hdb he hpl
theorem eE.units1{k:Nat}{A:Around}(r:eE k A):A.in1.units+64<cLine:=by have:=r.un;show A.units+1+64<_;omega
noncomputable def RF(mg:Str->Option Value)(xs:List Str):Prop:=∀x∈xs,mg x=none
theorem RF.of{xs:List Str}(h:RF mg xs)(x:Str)(hx:x∈xs:=by decide +kernel):mg x=none:=h x hx
theorem VH:RF mg []:=fun _ h=>absurd h (by simp)
theorem eJ{x:Str}{xs:List Str}(h:mg x=none)(hr:RF mg xs):RF mg (x::xs):=fun y hy=>(List.mem_cons.mp hy).elim (fun e=>e▸h) (hr y)
noncomputable def JW(i j:Int):Prop:=aEc i j\/aIB i j
theorem JW.ok{i j:Int}(h:JW i j):IntMulOk i j:=by
 rcases h with h|h
 .exact h.ok
 .exact IntMulOk.of_bits (DY h.1) (DY h.2)
theorem aCE:OpR X (binaryOp .Mult) (rI JW fun i j=>.int (i*j)):=opI fun _ _ _ _ _ _ _ hc q=>mul_int q hc.ok
noncomputable def aDB(_ j:Int):Prop:=0<j/\XH j
theorem VX:OpR X (binaryOp .FloorDiv) (rI aDB fun i j=>.int (i / j)):=opI fun i j _ _ _ _ _ hc q=>by
 refine floordiv_int (Int.ne_of_gt hc.1) ?_ (.inl (PyProof.noPylong_of_log2 (KZ hc.2)));rw[Int.fdiv_eq_ediv_of_nonneg _ (Int.le_of_lt hc.1)];exact q
end
noncomputable def aDp(sc0:Scope)(N N':List Str)(cap:List (Option Nat))(scope:Scope):Bool:=
 scope.names.all (fun y=>y.2 != .cell)&&(scope.kind==.function)&&scope.names.all (fun y=>y.2 != .local || scope.names.lookup y.1==some .local) &&
 scope.names.all (fun y=>y.2 != .free || (sc0.names.lookup y.1==some .cell || sc0.names.lookup y.1==some .free))&&(cap.length==N'.length) &&
 (List.range cap.length).all fun i=>match cap[i]? with
  |some (some j)=>(match N'[i]?,N[j]? with
   |some x,some y=>x==y&&scope.names.lookup x==some .free
   |_,_=>false)
  |_=>true
theorem kH{X:Cx}{sc0 scope:Scope}{N N':List Str}{cap:List (Option Nat)}(h1:X.env.scope=sc0)(h2:X.N=N)(h:aDp sc0 N N' cap scope=true):pW X N' cap scope:=by
 unfold aDp at h;simp only[Bool.and_eq_true,List.all_eq_true,beq_iff_eq,bne_iff_ne,ne_eq,Bool.or_eq_true,List.mem_range]at h;obtain⟨⟨⟨⟨⟨a,b⟩,c⟩,d⟩,e⟩,f⟩:=h;refine⟨a,b,fun y hy hk=>?_,fun y hy hk=>?_,e,fun i j hij=>?_⟩
 .rcases c y hy with z|z
  .exact absurd hk z
  .exact z
 .show X.env.scope.names.lookup y.1=_\/X.env.scope.names.lookup y.1=_;rw[h1];rcases d y hy with z|z
  .exact absurd hk z
  .exact z
 .have hi:i<cap.length:=(List.getElem?_eq_some_iff.mp hij).1;have g:=f i hi;rw[hij]at g;dsimp only at g;rw[h2];split at g
  .rename_i x y ex ey;rw[B3,Z0,Z0]at g;exact⟨x,ex,by rw[ey,g.1],g.2⟩
  .cases g
noncomputable def tyName:PyData->String
 |.none=>"NoneType"
 |.bool _=>"bool"
 |.int _=>"int"
 |.str _=>"str"
 |.list _=>"list"
 |.tuple _=>"tuple"
 |.dict _=>"dict"
noncomputable def asked:List String:=["int","bool","str","list","tuple","dict"]
noncomputable def isT(T S:String):Bool:=T==S || (T=="int"&&S=="bool")
noncomputable def zN(T:String)(d:PyData):Bool:=isT T (tyName d)
noncomputable def aHy(S T:String):Option Bool:=if (Value.type S==Value.type T)=true then some true else if PySem.W.kitMeta T=true then(PySem.fastBuiltinMro S).map (·.contains (Value.type T))else none
theorem YM:(["NoneType","bool","int","str","list","tuple","dict"].all fun S=>asked.all fun T=>aHy S T==some (isT T S))=true:=by decide +kernel
theorem ZC{T:String}{d:PyData}(h:T∈asked):PySem.W.kitOne K (.type (tyName d)) (.type T)=some (zN T d):=by
 have e:PySem.W.kitOne K (.type (tyName d)) (.type T)=aHy (tyName d) T:=rfl;rw[e];have hk:=YM;rw[List.all_eq_true]at hk;have h1:=hk (tyName d) (by cases d<;>simp[tyName]);rw[List.all_eq_true]at h1;exact eq_of_beq (h1 T h)
theorem OW{K:Fg}{d:PyData}:∀{Ts:List String},(∀T∈Ts,T∈asked)->PySem.W.kitAny K (.type (tyName d)) (Ts.map Value.type)=some (Ts.any fun T=>zN T d)
 |[]=>fun _=>rfl
 |T::Ts=>fun h=>by
  rw[B7];unfold PySem.W.kitAny;rw[ZC (h T B0),S0];cases zN T d with
  |true=>rfl
  |false=>rw[Bool.false_or];exact OW fun U hU=>h U (A9 _ hU)
section
variable{X:Cx}
theorem PZ{pins:List (Addr×Obj)}{σ:St}{H:Hp}{s:Shared}(I:Inv X pins σ H s):∀{d:PyData}{v:V}{u:Value},Rep X.K H d v->RelV v u->∃Hc:Heap->Prop,PySem.W.KitX X.K u (.type (tyName d)) Hc/\Hc s.heap/\u≠.builtin "__main__.__loader__#opaque"
 |.none,v,u=>fun h r=>by
  rw[show v=.non from h]at r;cases (show u=Value.none from r);exact⟨_,PySem.W.kitx_none,True.intro,fun z=>nomatch z⟩
 |.bool b,v,u=>fun h r=>by
  rw[show v=.bl b from h]at r;cases (show u=Value.bool b from r);exact⟨_,PySem.W.kitx_bool,True.intro,fun z=>nomatch z⟩
 |.int i,v,u=>fun h r=>by
  rw[show v=.int i from h]at r;obtain⟨t,q⟩:=(show ∃t,u=Value.int i t from r);cases q;exact⟨_,PySem.W.kitx_int,True.intro,fun z=>nomatch z⟩
 |.str x,v,u=>fun h r=>by
  rw[show v=.str x from h]at r;obtain⟨t,q⟩:=(show ∃t,u=Value.str x t from r);cases q;exact⟨_,PySem.W.kitx_str,True.intro,fun z=>nomatch z⟩
 |.list xs,v,u=>fun h r=>by
  obtain⟨a,vs,rfl,h2,_⟩:=h;cases (show u=Value.ref a from r);obtain⟨its,hv,⟨o,n,hg,hc,_,hd⟩,_⟩:=I.list h2;exact⟨_,PySem.W.kitx_list,⟨o,hg,hc⟩,fun z=>nomatch z⟩
 |.tuple xs,v,u=>fun h r=>by
  obtain⟨a,vs,rfl,h2,_⟩:=h;cases (show u=Value.ref a from r);obtain⟨its,hv,⟨o,hg,hc,n,hd⟩,_⟩:=I.tuple h2;exact⟨_,PySem.W.kitx_tuple,⟨o,hg,hc⟩,fun z=>nomatch z⟩
 |.dict kvs,v,u=>fun h r=>by
  obtain⟨a,ks,rfl,h2,_⟩:=h;cases (show u=Value.ref a from r);obtain⟨_,_,vs,_,o,es,ep,h1,hx,_⟩:=(show eL X.prog X.w H s.heap a (.dK ks)from I.hok a _ h2);exact⟨_,PySem.W.kitx_dict,⟨o,h1,hx.1⟩,fun z=>nomatch z⟩
noncomputable def aEJ(K:Fg):List V->Hp->VK->Prop:=fun xs H Q=>∃x T d,xs=[x,.ty T]/\T∈asked/\Rep K H d x/\Q (.bl (zN T d)) H
theorem RH:fV X (.builtin "isinstance") (aEJ X.K):=by
 intro pins s σ H xs us Q I r h;obtain⟨x,T,d,rfl,hT,hd,q⟩:=h;obtain⟨u,u',rfl,ru,ru'⟩:=vals2 r;cases (show u'=Value.type T from ru');obtain⟨Hc,Z,hh,hne⟩:=PZ I hd ru;exact PySem.W.kia_one Z I.kIn hh (ZC hT) hne fun tk=>⟨.bl _,H,I.tok tk,rfl,q⟩
noncomputable def WM(K:Fg):List V->Hp->VK->Prop:=fun xs H Q=>∃(x:V)(p:Addr)(Ts:List String)(d:PyData),xs=[x,.ref p]/\H p=some (.tup (Ts.map V.ty))/\(∀T∈Ts,T∈asked)/\Rep K H d x/\Q (.bl (Ts.any fun T=>zN T d)) H
theorem LW:fV X (.builtin "isinstance") (WM X.K):=by
 intro pins s σ H xs us Q I r h;obtain⟨x,p,Ts,d,rfl,hp,hT,hd,q⟩:=h;obtain⟨u,u',rfl,ru,ru'⟩:=vals2 r;cases (show u'=Value.ref p from ru');obtain⟨_,its,rv,o,hg,hcl,n,hd'⟩:=(show eL X.prog X.w H s.heap p (.tup (Ts.map V.ty))from I.hok p _ hp);have hits:its=Ts.map Value.type:=bE.types rv;subst hits;obtain⟨oc,od,odt,osl⟩:=o;dsimp only at hcl hd';subst hcl hd';obtain⟨Hc,Z,hh,hne⟩:=PZ I hd ru;exact PySem.W.kia_tup Z I.kIn hh hg (OW hT) hne fun tk=>⟨.bl _,H,I.tok tk,rfl,q⟩
end
theorem jQ.upd{p:Addr}{o:HO}(h:H p=none):jQ H (upd H p o):=fun b u e=>by rw[aV (aU e h)];exact e
noncomputable def aQ:PyData->Option (List PyData)
 |.list xs=>some xs
 |.tuple xs=>some xs
 |_=>none
theorem mF{K:Fg}{H:Hp}:∀{d:PyData}{v:V}{ds:List PyData},Rep K H d v->aQ d=some ds->∃a vs,v=.ref a/\(SqL K H a vs\/SqT K H a vs)/\aL K H ds vs
 |.list xs,v,ds=>fun h e=>by
  obtain⟨a,vs,h1,h2,h3⟩:=h;cases e;exact⟨a,vs,h1,.inl h2,h3⟩
 |.tuple xs,v,ds=>fun h e=>by
  obtain⟨a,vs,h1,h2,h3⟩:=h;cases e;exact⟨a,vs,h1,.inr h2,h3⟩
 |.none,_,_=>fun _ e=>by cases e
 |.bool _,_,_=>fun _ e=>by cases e
 |.int _,_,_=>fun _ e=>by cases e
 |.str _,_,_=>fun _ e=>by cases e
 |.dict _,_,_=>fun _ e=>by cases e
section
variable{X:Cx}{tg:Expr}
noncomputable def aCv(K:Fg)(tl:TE):TI:=fun σ H R=>tl σ H fun x H1=>∃a,x=.ref a/\((∃xs,SqL K H1 a xs/\R (Itl K a) H1)\/(∃xs,SqT K H1 a xs/\R (Itt K a) H1))
theorem aGF{l:Expr}{tl:TE}(hl:PE X l tl):PI X tg l (aCv X.K tl):=by
 intro pins s σ H R I h;refine thn (hl pins s σ H _ I h) fun v s1 hz=>?_;obtain⟨x,H1,I1,r1,a,e,q1⟩:=hz;subst e;cases r1
 have fp:∀b∈[s1.heap.objs.size],pY X pins H1 b:=fun b hb=>by
  have e:b=s1.heap.objs.size:=List.mem_singleton.mp hb;subst e;exact I1.fpOk (A6 _) (I1.hok.fresh (A6 _))
 rcases q1 with⟨xs,hq,q⟩|⟨xs,hq,q⟩
 .obtain⟨its,rv,p,hz⟩:=I1.list hq;refine wpAny_pyIter_list p.isList ?_;exact⟨s1.heap.objs.size,[s1.heap.objs.size],_,_,H1,rfl,I1.kept (t':=s1.toks) fun b o e=>A4 _ e,UC a _,⟨_,D1 _ rfl,rfl,rfl⟩,fp,q⟩
 .obtain⟨its,rv,p,hz⟩:=I1.tuple hq;refine A0k (show s1.heap.IsTuple a its.toArray from p) ?_;exact⟨s1.heap.objs.size,[s1.heap.objs.size],_,_,H1,rfl,I1.kept (t':=s1.toks) fun b o e=>A4 _ e,MR a _,⟨_,D1 _ rfl,rfl,rfl⟩,fp,q⟩
end
inductive CD where
 |d (x:PyData)
 |c (n:Nat)
 |t (xs:List (PyData ⊕ Nat))
 |f (kvs:List (List Key×PyData))
inductive Cell where
 |lst (xs:List CD)
 |dk (kvs:List (Key×CD))
 |dt (kvs:List (List Key×CD))
 |obj (nm:Str) (fs:List (Str×CD))
 |exc (fr:Bool) (nm:Str) (fs:List (Str×CD))
 |dead
structure Wd where
 F:Hp
 α:Nat->Addr
 n:Nat
structure Wd.Ext(W W':Wd):Prop where
 ff:jQ W.F W'.F
 ln:W.n<=W'.n
 al:∀i,i<W.n->W'.α i=W.α i
theorem Wd.Ext.refl(W:Wd):W.Ext W:=⟨jQ.refl _,A6 _,fun _ _=>rfl⟩
theorem Wd.Ext.trans{W1 W2:Wd}(a:W.Ext W1)(b:W1.Ext W2):W.Ext W2:=⟨a.ff.trans b.ff,F0 a.ln b.ln,fun i h=>(b.al i (C3 h a.ln)).trans (a.al i h)⟩
noncomputable def UI(K:Fg)(W:Wd):PyData ⊕ Nat->V->Prop
 |.inl x,v=>Rep K W.F x v
 |.inr i,v=>i<W.n/\v=.ref (W.α i)
noncomputable def cdA:PyData ⊕ Nat->CD
 |.inl x=>.d x
 |.inr i=>.c i
noncomputable def cH(K:Fg)(W:Wd):CD->V->Prop
 |.d x,v=>Rep K W.F x v
 |.c i,v=>i<W.n/\v=.ref (W.α i)
 |.t xs,v=>∃a vs,v=.ref a/\W.F a=some (.tup vs)/\Paired (UI K W) xs vs
 |.f kvs,v=>∃a o us,v=.ref a/\W.F a=some (.frz o (.dT us))/\Paired (fun p q=>p.1=q.1/\Rep K W.F p.2 q.2) kvs us
noncomputable abbrev cA(K:Fg)(W:Wd):List CD->List V->Prop:=Paired (cH K W)
noncomputable def JM(K:Fg)(W:Wd):Option CD->Option V->Prop
 |none,none=>True
 |some x,some v=>cH K W x v
 |_,_=>False
noncomputable abbrev dC(K:Fg)(W:Wd):List (Option CD)->St->Prop:=Paired (JM K W)
noncomputable def dD(K:Fg)(nm:Str):Addr:=match PySem.W.nsIn K mainGlobals nm with
 |some (some (.ref C))=>C
 |_=>0
noncomputable def IV(a:Addr)(c:Value)(dx:Option Addr)(fr:Bool)(h:Heap):Prop:=∃o vs,h.get? a=some o/\o.cls=c/\o.dict=dx/\o.data=.fields vs/\(fr=true->1<vs.size/\vs[1]?=some .none)
noncomputable def KC(K:Fg)(W:Wd)(dx:Option Addr)(fs:List (Str×CD)):Prop:=match dx with
 |none=>fs=[]
 |some d=>fs≠[]/\∃us,W.F d=some (.xd us)/\Paired (fun p q=>p.1=q.1/\cH K W p.2 q.2) fs us
noncomputable def RO(K:Fg)(W:Wd)(a:Addr):Cell->HO->Prop
 |.lst xs,.lst vs=>cA K W xs vs
 |.dk kvs,.dK us=>Paired (fun p q=>p.1=q.1/\cH K W p.2 q.2) kvs us
 |.dt kvs,.dT us=>Paired (fun p q=>p.1=q.1/\cH K W p.2 q.2) kvs us
 |.obj nm fs,.ins C _ us=>C=dD K nm/\Paired (fun p q=>p.1=q.1/\cH K W p.2 q.2) fs us
 |.exc fr nm fs,.ext φ=>∃dx,φ=IV a (.ref (dD K nm)) dx fr/\KC K W dx fs
 |_,_=>False
structure Good(K:Fg)(W:Wd)(M:List Cell)(H:Hp):Prop where
 fh:jQ W.F H
 n:W.n=M.length
 cs:∀i c,M[i]?=some c->c≠.dead->W.F (W.α i)=none/\∃o,H (W.α i)=some o/\RO K W (W.α i) c o
 inj:∀i j c c',M[i]?=some c->M[j]?=some c'->c≠.dead->c'≠.dead->W.α i=W.α j->i=j
section
variable{K:Fg}{W W':Wd}{M M':List Cell}{H H':Hp}
theorem UI.up{x:PyData ⊕ Nat}{v:V}(h:UI K W x v)(e:W.Ext W'):UI K W' x v:=by
 cases x with
 |inl x=>exact Rep.same e.ff _ _ h
 |inr i=>exact⟨C3 h.1 e.ln,by rw[e.al i h.1];exact h.2⟩
theorem cH.up{x:CD}{v:V}(h:cH K W x v)(e:W.Ext W'):cH K W' x v:=by
 cases x with
 |d x=>exact Rep.same e.ff _ _ h
 |c i=>exact⟨C3 h.1 e.ln,by rw[e.al i h.1];exact h.2⟩
 |t xs=>
  obtain⟨a,vs,h1,h2,h3⟩:=h;exact⟨a,vs,h1,e.ff _ _ h2,Paired.mapP h3 fun _ _ r=>UI.up r e⟩
 |f kvs=>
  obtain⟨a,o,us,h1,h2,h3⟩:=h;exact⟨a,o,us,h1,e.ff _ _ h2,Paired.mapP h3 fun _ _ r=>⟨r.1,Rep.same e.ff _ _ r.2⟩⟩
theorem cA.up{xs:List CD}{vs:List V}(h:cA K W xs vs)(e:W.Ext W'):cA K W' xs vs:=Paired.mapP h fun _ _ r=>cH.up r e
theorem dC.up{γ:List (Option CD)}{σ:St}(h:dC K W γ σ)(e:W.Ext W'):dC K W' γ σ:=Paired.mapP h fun a b r=>by
 cases a<;>cases b
 .exact True.intro
 .exact False.elim r
 .exact False.elim r
 .exact cH.up r e
theorem KC.up{dx:Option Addr}{fs:List (Str×CD)}(h:KC K W dx fs)(e:W.Ext W'):KC K W' dx fs:=by
 cases dx with
 |none=>exact h
 |some d=>
  obtain⟨h0,us,h1,h2⟩:=h;exact⟨h0,us,e.ff _ _ h1,Paired.mapP h2 fun _ _ r=>⟨r.1,cH.up r.2 e⟩⟩
theorem RO.up{a:Addr}{c:Cell}{o:HO}(h:RO K W a c o)(e:W.Ext W'):RO K W' a c o:=by
 cases c<;>cases o<;>first|exact(let⟨dx,h1,h2⟩:=h;⟨dx,h1,h2.up e⟩)|exact False.elim h|exact cA.up h e|exact Paired.mapP h fun _ _ r=>⟨r.1,cH.up r.2 e⟩|exact⟨h.1,Paired.mapP h.2 fun _ _ r=>⟨r.1,cH.up r.2 e⟩⟩
theorem Good.lay(g:Good K W M H){p:Addr}{o:HO}(hp:H p=none):W.Ext { W with F:=upd W.F p o }/\Good K { W with F:=upd W.F p o } M (upd H p o):=by
 have fp:W.F p=none:=g.fh.free hp;have e:W.Ext { W with F:=upd W.F p o }:=⟨jQ.upd fp,A6 _,fun _ _=>rfl⟩;refine⟨e,?_,g.n,fun i c hi hc=>?_,g.inj⟩
 .intro b u hb;have hb:upd W.F p o b=some u:=hb;by_cases q:b=p
  .subst q;rw[aY]at hb;rw[aY];exact hb
  .rw[aV q]at hb;rw[aV q];exact g.fh b u hb
 .obtain⟨h1,o',h2,h3⟩:=g.cs i c hi hc;have ne:W.α i≠p:=aU h2 hp;exact⟨by show upd W.F p o (W.α i)=none;rw[aV ne];exact h1,o',by rw[aV ne];exact h2,h3.up e⟩
noncomputable def Wd.more(W:Wd)(p:Addr):Wd:={ W with α:=fun i=>if i=W.n then p else W.α i,n:=W.n+1 }
theorem Wd.ext_more(W:Wd)(p:Addr):W.Ext (W.more p):=⟨jQ.refl _,A0a _,fun i h=>A7 (C7 h)⟩
theorem Good.new(g:Good K W M H){p:Addr}{c:Cell}{o:HO}(hp:H p=none)(r:RO K W p c o):Good K (W.more p) (M++[c]) (upd H p o):=by
 have e:=W.ext_more p
 have at_:∀i c',(M++[c])[i]?=some c'->(i<M.length/\M[i]?=some c')\/(i=M.length/\c'=c):=fun i c' h=>by
  by_cases q:i<M.length
  .rw[J7 q]at h;exact .inl ⟨q,h⟩
  .rw[B2 (Nat.le_of_not_lt q)]at h
   have h':i-M.length=0:=by
    cases k:i-M.length with
    |zero=>rfl
    |succ m=>rw[k]at h;simp at h
   rw[h']at h;refine .inr ⟨by omega,?_⟩;simpa using h.symm
 have al:∀i,i<M.length->(W.more p).α i=W.α i:=fun i h=>e.al i (by rw[g.n];exact h);have an:(W.more p).α M.length=p:=by show(if M.length=W.n then p else _)=p;rw[A3 g.n.symm]
 have nep:∀i c',M[i]?=some c'->c'≠.dead->W.α i≠p:=fun i c' h hc=>by
  obtain⟨_,o',h2,_⟩:=g.cs i c' h hc;exact aU h2 hp
 refine⟨?_,?_,fun i c' hi hc=>?_,fun i j c1 c2 hi hj d1 d2 he=>?_⟩
 .intro b u hb;have:=g.fh b u hb;rw[aV (aU this hp)];exact this
 .show W.n+1=_;rw[g.n,B4];rfl
 .rcases at_ i c' hi with⟨q,h⟩|⟨rfl,rfl⟩
  .obtain⟨h1,o',h2,h3⟩:=g.cs i c' h hc;rw[al i q];exact⟨h1,o',by rw[aV (nep i c' h hc)];exact h2,h3.up e⟩
  .rw[an];exact⟨g.fh.free hp,o,aY,r.up e⟩
 .rcases at_ i c1 hi with⟨q,h⟩|⟨rfl,rfl⟩
  .rcases at_ j c2 hj with⟨q',h'⟩|⟨rfl,rfl⟩
   .rw[al i q,al j q']at he;exact g.inj i j c1 c2 h h' d1 d2 he
   .rw[al i q,an]at he;exact absurd he (nep i c1 h d1)
  .rcases at_ j c2 hj with⟨q',h'⟩|⟨rfl,rfl⟩
   .rw[an,al j q']at he;exact absurd he.symm (nep j c2 h' d2)
   .rfl
theorem Good.set(g:Good K W M H){i:Nat}{c c':Cell}{o':HO}(hi:M[i]?=some c)(hc:c≠.dead)(r:RO K W (W.α i) c' o'):Good K W (M.set i c') (upd H (W.α i) o'):=by
 obtain⟨h1,o,h2,h3⟩:=g.cs i c hi hc;have lt:i<M.length:=(List.getElem?_eq_some_iff.mp hi).1
 have at_:∀j d,(M.set i c')[j]?=some d->(j=i/\d=c')\/(j≠i/\M[j]?=some d):=fun j d h=>by
  by_cases q:i=j
  .subst q;rw[L8 lt]at h;exact .inl ⟨rfl,(D5 h).symm⟩
  .rw[O7 q]at h;exact .inr ⟨fun z=>q z.symm,h⟩
 refine⟨?_,by rw[g.n,U3],fun j d hj hd=>?_,fun j k d1 d2 hj hk e1 e2 he=>?_⟩
 .intro b u hb;rw[aV (aU hb h1)];exact g.fh b u hb
 .rcases at_ j d hj with⟨rfl,rfl⟩|⟨q,h⟩
  .exact⟨h1,o',aY,r⟩
  .obtain⟨k1,u,k2,k3⟩:=g.cs j d h hd;have ne:W.α j≠W.α i:=fun z=>q (g.inj j i d c h hi hd hc z);exact⟨k1,u,by rw[aV ne];exact k2,k3⟩
 .rcases at_ j d1 hj with⟨rfl,rfl⟩|⟨q,h⟩<;>rcases at_ k d2 hk with⟨rfl,rfl⟩|⟨q',h'⟩
  .rfl
  .exact g.inj _ k c d2 hi h' hc e2 he
  .exact g.inj j _ d1 c h hi e1 hc he
  .exact g.inj j k d1 d2 h h' e1 e2 he
end
noncomputable abbrev Ga:=List (Option CD)
noncomputable abbrev Sto:=List Cell
noncomputable abbrev EF:=Ga->Sto->Option (CD×Sto)
noncomputable abbrev TF:=Ga->Sto->Option (Bool×Sto)
noncomputable abbrev AF:=Ga->Sto->Option (List CD×Sto)
inductive Out where
 |nx (γ:Ga)|bk (γ:Ga)|ct (γ:Ga)|rt (x:CD)
noncomputable abbrev SF:=Ga->Sto->Option (Out×Sto)
noncomputable abbrev GF:=CD->Ga->Sto->Option (Ga×Sto)
noncomputable abbrev GsF:=List CD->Ga->Sto->Option (Ga×Sto)
noncomputable abbrev F1:=CD->Sto->Option (CD×Sto)
noncomputable abbrev F2:=CD->CD->Sto->Option (CD×Sto)
noncomputable abbrev FN:=List CD->Sto->Option (CD×Sto)
section
variable(K:Fg)
noncomputable def SE(t:TE)(f:EF):Prop:=∀γ M x M',f γ M=some (x,M')->∀(W:Wd)(H:Hp)(σ:St)(Q:VK),Good K W M H->dC K W γ σ->(∀v W' H',W.Ext W'->Good K W' M' H'->cH K W' x v->Q v H')->t σ H Q
noncomputable def STt(t:TT)(f:TF):Prop:=∀γ M b M',f γ M=some (b,M')->∀(W:Wd)(H:Hp)(σ:St)(Q:Bool->Hp->Prop),Good K W M H->dC K W γ σ->(∀W' H',W.Ext W'->Good K W' M' H'->Q b H')->t σ H Q
noncomputable def SA(t:TA)(f:AF):Prop:=∀γ M xs M',f γ M=some (xs,M')->∀(W:Wd)(H:Hp)(σ:St)(Q:List V->Hp->Prop),Good K W M H->dC K W γ σ->(∀vs W' H',W.Ext W'->Good K W' M' H'->cA K W' xs vs->Q vs H')->t σ H Q
noncomputable def aAa(D:Ends)(W:Wd)(H:Hp):Out->Prop
 |.nx γ=>∀σ,dC K W γ σ->D.nx σ H
 |.bk γ=>∀σ,dC K W γ σ->D.bk σ H
 |.ct γ=>∀σ,dC K W γ σ->D.ct σ H
 |.rt x=>∀v,cH K W x v->D.rt v H
noncomputable def SS(t:TS)(f:SF):Prop:=∀γ M o M',f γ M=some (o,M')->∀(W:Wd)(H:Hp)(σ:St)(D:Ends),Good K W M H->dC K W γ σ->(∀W' H',W.Ext W'->Good K W' M' H'->aAa K D W' H' o)->t D σ H
noncomputable def SG(t:TG)(f:GF):Prop:=∀x γ M γ' M',f x γ M=some (γ',M')->∀(W:Wd)(H:Hp)(σ:St)(v:V)(Q:St->Hp->Prop),Good K W M H->dC K W γ σ->cH K W x v->(∀σ' W' H',W.Ext W'->Good K W' M' H'->dC K W' γ' σ'->Q σ' H')->t v σ H Q
noncomputable def SGs(t:TGs)(f:GsF):Prop:=∀xs γ M γ' M',f xs γ M=some (γ',M')->∀(W:Wd)(H:Hp)(σ:St)(vs:List V)(Q:St->Hp->Prop),Good K W M H->dC K W γ σ->cA K W xs vs->(∀σ' W' H',W.Ext W'->Good K W' M' H'->dC K W' γ' σ'->Q σ' H')->t vs σ H Q
noncomputable def P2(r:R2)(f:F2):Prop:=∀x y M z M',f x y M=some (z,M')->∀(W:Wd)(H:Hp)(v u:V)(Q:VK),Good K W M H->cH K W x v->cH K W y u->(∀w W' H',W.Ext W'->Good K W' M' H'->cH K W' z w->Q w H')->r v u H Q
noncomputable def P1(r:V->Hp->VK->Prop)(f:F1):Prop:=∀x M z M',f x M=some (z,M')->∀(W:Wd)(H:Hp)(v:V)(Q:VK),Good K W M H->cH K W x v->(∀w W' H',W.Ext W'->Good K W' M' H'->cH K W' z w->Q w H')->r v H Q
noncomputable def PN(r:List V->Hp->VK->Prop)(f:FN):Prop:=∀xs M z M',f xs M=some (z,M')->∀(W:Wd)(H:Hp)(vs:List V)(Q:VK),Good K W M H->cA K W xs vs->(∀w W' H',W.Ext W'->Good K W' M' H'->cH K W' z w->Q w H')->r vs H Q
noncomputable def spM(f:FN):Sp:=fun vs H Q _=>∃xs M W y M',Good K W M H/\cA K W xs vs/\f xs M=some (y,M')/\∀v W' H',W.Ext W'->Good K W' M' H'->cH K W' y v->Q v H'
end
noncomputable def aD(i:Nat):EF:=fun γ M=>match γ[i]? with
 |some (some x)=>some (x,M)
 |_=>none
noncomputable def fC(x:PyData):EF:=fun _ M=>some (.d x,M)
noncomputable def fOp(h:F2)(f g:EF):EF:=fun γ M=>(f γ M).bind fun r=>(g γ r.2).bind fun q=>h r.1 q.1 q.2
noncomputable def fUn(h:F1)(f:EF):EF:=fun γ M=>(f γ M).bind fun r=>h r.1 r.2
noncomputable def asB:CD->Option Bool
 |.d (.bool b)=>some b
 |_=>none
noncomputable def lT(f g:EF):EF:=fun γ M=>(f γ M).bind fun r=>(asB r.1).bind fun b=>if b=true then g γ r.2 else some (.d (.bool false),r.2)
noncomputable def fOr(f g:EF):EF:=fun γ M=>(f γ M).bind fun r=>(asB r.1).bind fun b=>if b=true then some (.d (.bool true),r.2)else g γ r.2
noncomputable def wI(f:EF):EF:=fun γ M=>(f γ M).bind fun r=>(asB r.1).bind fun b=>some (.d (.bool (!b)),r.2)
noncomputable def fIf(t:TF)(f g:EF):EF:=fun γ M=>(t γ M).bind fun r=>if r.1=true then f γ r.2 else g γ r.2
noncomputable def kZ(f g:TF):TF:=fun γ M=>(f γ M).bind fun r=>if r.1=true then g γ r.2 else some (false,r.2)
noncomputable def gOr(f g:TF):TF:=fun γ M=>(f γ M).bind fun r=>if r.1=true then some (true,r.2)else g γ r.2
noncomputable def fO(f:TF):TF:=fun γ M=>(f γ M).bind fun r=>some (!r.1,r.2)
noncomputable def gB(f:EF):TF:=fun γ M=>(f γ M).bind fun r=>(asB r.1).bind fun b=>some (b,r.2)
noncomputable def tU(h h':F2)(f g e:EF):EF:=fun γ M=>(f γ M).bind fun r=>(g γ r.2).bind fun q=>(h r.1 q.1 q.2).bind fun z=>(asB z.1).bind fun b=>if b=true then(e γ z.2).bind fun w=>h' q.1 w.1 w.2 else some (.d (.bool false),z.2)
noncomputable def aG:AF:=fun _ M=>some ([],M)
noncomputable def aB(f:EF)(g:AF):AF:=fun γ M=>(f γ M).bind fun r=>(g γ r.2).bind fun q=>some (r.1::q.1,q.2)
noncomputable def mW:List CD->Option (List PyData)
 |[]=>some []
 |.d x::r=>(mW r).map (x::·)
 |.c _::_=>none
 |.t _::_=>none
 |.f _::_=>none
noncomputable def bL(f:AF):EF:=fun γ M=>(f γ M).bind fun r=>(mW r.1).bind fun ds=>if ds.length<=sizeLine then some (.d (.tuple ds),r.2)else none
noncomputable def fP(f:AF):EF:=fun γ M=>(f γ M).bind fun r=>(mW r.1).bind fun ds=>if ds.length<=sizeLine then some (.d (.list ds),r.2)else none
noncomputable def kK(f:AF):EF:=fun γ M=>(f γ M).bind fun r=>if r.1.length<=sizeLine then some (.c r.2.length,r.2++[.lst r.1])else none
noncomputable def aK(h:FN)(f:AF):EF:=fun γ M=>(f γ M).bind fun r=>h r.1 r.2
noncomputable def bC:SF:=fun γ M=>some (.nx γ,M)
noncomputable def aO(f g:SF):SF:=fun γ M=>(f γ M).bind fun r=>match r.1 with
 |.nx γ'=>g γ' r.2
 |o=>some (o,r.2)
noncomputable def lL(f:EF):SF:=fun γ M=>(f γ M).bind fun r=>some (.nx γ,r.2)
noncomputable def bK(f:EF):SF:=fun γ M=>(f γ M).bind fun r=>some (.rt r.1,r.2)
noncomputable def aHW:SF:=fun _ M=>some (.rt (.d .none),M)
noncomputable def sIf(c:TF)(f g:SF):SF:=fun γ M=>(c γ M).bind fun r=>if r.1=true then f γ r.2 else g γ r.2
noncomputable def aZ(f:EF)(g:GF):SF:=fun γ M=>(f γ M).bind fun r=>(g r.1 γ r.2).bind fun q=>some (.nx q.1,q.2)
noncomputable def hName(i:Nat):GF:=fun x γ M=>some (γ.set i (some x),M)
noncomputable def lR:GsF:=fun xs γ M=>match xs with
 |[]=>some (γ,M)
 |_=>none
noncomputable def bT(f:GF)(g:GsF):GsF:=fun xs γ M=>match xs with
 |x::r=>(f x γ M).bind fun q=>g r q.1 q.2
 |[]=>none
noncomputable def lB(n:Nat)(g:GsF):GF:=fun x γ M=>match x with
 |.d (.tuple ds)=>if ds.length=n then g (ds.map .d) γ M else none
 |.t xs=>if xs.length=n then g (xs.map cdA) γ M else none
 |_=>none
noncomputable abbrev F3:=CD->CD->CD->Sto->Option Sto
noncomputable def hSub(fo fi:EF)(s:F3):GF:=fun x γ M=>(fo γ M).bind fun r=>(fi γ r.2).bind fun q=>(s r.1 q.1 x q.2).bind fun M'=>some (γ,M')
noncomputable def CK(i j:Nat)(f:AF):SF:=fun γ M=>(f γ M).bind fun r=>match r.1 with
 |[x,y]=>some (.nx ((γ.set i (some x)).set j (some y)),r.2)
 |_=>none
noncomputable def iI(g:GF)(b:SF):List CD->Ga->Sto->Option (Out×Sto)
 |[],γ,M=>some (.nx γ,M)
 |x::xs,γ,M=>(g x γ M).bind fun r=>(b r.1 r.2).bind fun q=>match q.1 with
  |.nx γ'=>iI g b xs γ' q.2
  |.ct γ'=>iI g b xs γ' q.2
  |.bk γ'=>some (.nx γ',q.2)
  |.rt x=>some (.rt x,q.2)
noncomputable def kW(f:AF)(g:GF)(b:SF):SF:=fun γ M=>(f γ M).bind fun r=>iI g b r.1 γ r.2
noncomputable def eY(c:TF)(b:SF):Nat->Ga->Sto->Option (Out×Sto)
 |0,_,_=>none
 |n+1,γ,M=>(c γ M).bind fun r=>if r.1=true then(b γ r.2).bind fun q=>match q.1 with
  |.nx γ'=>eY c b n γ' q.2
  |.ct γ'=>eY c b n γ' q.2
  |.bk γ'=>some (.nx γ',q.2)
  |.rt x=>some (.rt x,q.2)else some (.nx γ,r.2)
open Classical in
noncomputable def nV(c:TF)(b:SF):SF:=fun γ M=>if h:∃n,(eY c b n γ M).isSome=true then eY c b h.choose γ M else none
noncomputable def lcF(g:GF)(c:TF)(e:EF):List CD->Ga->Sto->Option (List CD×Sto)
 |[],γ,M=>some ([],M)
 |x::xs,γ,M=>(g x γ M).bind fun a=>(c a.1 a.2).bind fun b=>if b.1=true then(e a.1 b.2).bind fun r=>(lcF g c e xs a.1 r.2).bind fun q=>some (r.1::q.1,q.2)else lcF g c e xs a.1 b.2
noncomputable def CC(cap:List (Option Nat))(γ:Ga):Ga:=cap.map fun o=>o.bind fun j=>(γ[j]?).join
noncomputable def jH:TF:=fun _ M=>some (true,M)
noncomputable def DA(cap:List (Option Nat))(f:AF)(g:GF)(c:TF)(e:EF):AF:=fun γ M=>(f γ M).bind fun r=>if r.1.length<=sizeLine then lcF g c e r.1 (CC cap γ) r.2 else none
noncomputable def fLc(cap:List (Option Nat))(f:AF)(g:GF)(c:TF)(e:EF):EF:=fP (DA cap f g c e)
noncomputable def aAy(cap:List (Option Nat))(f:AF)(g:GF)(c:TF)(e:EF):EF:=kK (DA cap f g c e)
noncomputable def fnF(ps N:Nat)(b:SF):FN:=fun xs M=>if xs.length=ps then(b (xs.map some++List.replicate (N-xs.length) none) M).bind fun r=>match r.1 with
 |.rt x=>some (x,r.2)
 |.nx _=>some (.d .none,r.2)
 |_=>none else none
theorem aH{α β:Type}{o:Option α}{k:α->Option β}{r:β}(h:o.bind k=some r):∃a,o=some a/\k a=some r:=by
 cases o with
 |none=>cases h
 |some a=>exact⟨a,rfl,h⟩
theorem Paired.get{α β:Type}{R:α->β->Prop}:∀{xs:List α}{ys:List β}{i:Nat}{x:α},Paired R xs ys->xs[i]?=some x->∃y,ys[i]?=some y/\R x y
 |_,_,_,_,.nil=>fun e=>by simp at e
 |_,_,0,_,.cons r _=>fun e=>by simp at e;subst e;exact⟨_,rfl,r⟩
 |_,_,i+1,x,.cons _ t=>fun e=>by
  obtain⟨u,h1,h2⟩:=Paired.get (i:=i) (x:=x) t (by simpa using e);exact⟨u,by simpa using h1,h2⟩
theorem Paired.set{α β:Type}{R:α->β->Prop}{x:α}{y:β}(r:R x y):∀{xs:List α}{ys:List β}(i:Nat),Paired R xs ys->Paired R (xs.set i x) (ys.set i y)
 |_,_,_,.nil=>.nil
 |_,_,0,.cons _ t=>.cons r t
 |_,_,i+1,.cons q t=>.cons q (Paired.set r i t)
theorem Paired.app{α β:Type}{R:α->β->Prop}:∀{xs xs':List α}{ys ys':List β},Paired R xs ys->Paired R xs' ys'->Paired R (xs++xs') (ys++ys')
 |_,_,_,_,.nil=>fun s=>s
 |_,_,_,_,.cons r t=>fun s=>.cons r (Paired.app t s)
theorem Paired.len{α β:Type}{R:α->β->Prop}{xs:List α}{ys:List β}(p:Paired R xs ys):xs.length=ys.length:=A0e p
section
variable{K:Fg}
theorem fQ{W:Wd}:∀{xs:List CD}{ds:List PyData}{vs:List V},mW xs=some ds->cA K W xs vs->aL K W.F ds vs
 |[],ds,vs=>fun e h=>by
  cases e;cases h;rfl
 |.c _::_,ds,vs=>fun e h=>by cases e
 |.t _::_,ds,vs=>fun e h=>by cases e
 |.f _::_,ds,vs=>fun e h=>by cases e
 |.d x::r,ds,vs=>fun e h=>by
  cases h with
  |@cons _ v _ vs' h1 h2=>
   unfold mW at e;cases q:mW r with
   |none=>rw[q]at e;cases e
   |some es=>
    rw[q]at e;cases e;exact⟨v,vs',rfl,h1,fQ q h2⟩
theorem OH{xs:List (PyData ⊕ Nat)}{vs:List V}(h:Paired (UI K W) xs vs):cA K W (xs.map cdA) vs:=by
 induction h with
 |nil=>exact .nil
 |@cons x v _ _ r _ ih=>exact .cons (by cases x<;>exact r) ih
theorem gU{W:Wd}:∀{ds:List PyData}{vs:List V},aL K W.F ds vs->cA K W (ds.map .d) vs
 |[],vs=>fun h=>by rw[show vs=[]from h];exact .nil
 |d::ds,vs=>fun h=>by
  obtain⟨v,r,rfl,h1,h2⟩:=h;exact .cons h1 (gU h2)
theorem JA:∀{xs:List CD}{ds:List PyData},mW xs=some ds->ds.length=xs.length
 |[],ds=>fun e=>by cases e;rfl
 |.c _::_,ds=>fun e=>by cases e
 |.t _::_,ds=>fun e=>by cases e
 |.f _::_,ds=>fun e=>by cases e
 |.d x::r,ds=>fun e=>by
  unfold mW at e;cases q:mW r with
  |none=>rw[q]at e;cases e
  |some es=>
   rw[q]at e;cases e;rw[D0,D0,JA q]
theorem aFL{i:Nat}:SE K (aIC i) (aD i):=by
 intro γ M x M' h W H σ Q g r k;unfold aD at h;cases e:γ[i]? with
 |none=>rw[e]at h;cases h
 |some o=>
  cases o with
  |none=>rw[e]at h;cases h
  |some y=>
   rw[e]at h;cases h;obtain⟨v,hv,rv⟩:=Paired.get r e;cases v with
   |none=>exact False.elim rv
   |some v=>exact⟨v,hv,k v W H (.refl _) g rv⟩
theorem aAG{i:Int}:SE K (tC (.int i)) (fC (.int i)):=by
 intro γ M x M' h W H σ Q g r k;cases h;exact k _ W H (.refl _) g rfl
theorem aIu{b:Bool}:SE K (tC (.bl b)) (fC (.bool b)):=by
 intro γ M x M' h W H σ Q g r k;cases h;exact k _ W H (.refl _) g rfl
theorem aDY:SE K (tC .non) (fC .none):=by
 intro γ M x M' h W H σ Q g r k;cases h;exact k _ W H (.refl _) g rfl
theorem aFr{x:Str}:SE K (tC (.str x)) (fC (.str x)):=by
 intro γ M x M' h W H σ Q g r k;cases h;exact k _ W H (.refl _) g rfl
variable{ta tb tc:TE}{f g e:EF}{tt uu:TT}{ft gt:TF}{tA:TA}{fa:AF}
theorem OB{r:R2}{h:F2}(p:P2 K r h)(a:SE K ta f)(b:SE K tb g):SE K (tOp r ta tb) (fOp h f g):=by
 intro γ M x M' hh W H σ Q G R k;obtain⟨⟨y,M1⟩,h1,hh⟩:=aH hh;obtain⟨⟨z,M2⟩,h2,hh⟩:=aH hh;refine a _ _ _ _ h1 W H σ _ G R fun v W1 H1 e1 G1 r1=>?_;refine b _ _ _ _ h2 W1 H1 σ _ G1 (R.up e1) fun u W2 H2 e2 G2 r2=>?_;exact p _ _ _ _ _ hh W2 H2 v u Q G2 (r1.up e2) r2 fun w W3 H3 e3 G3 r3=>k w W3 H3 ((e1.trans e2).trans e3) G3 r3
theorem aIb{r:V->Hp->VK->Prop}{h:F1}(p:P1 K r h)(a:SE K ta f):SE K (tUn r ta) (fUn h f):=by
 intro γ M x M' hh W H σ Q G R k;obtain⟨⟨y,M1⟩,h1,hh⟩:=aH hh;refine a _ _ _ _ h1 W H σ _ G R fun v W1 H1 e1 G1 r1=>?_;exact p _ _ _ _ hh W1 H1 v Q G1 r1 fun w W3 H3 e3 G3 r3=>k w W3 H3 (e1.trans e3) G3 r3
theorem AJ{x:CD}{b:Bool}(h:asB x=some b):x=.d (.bool b):=by
 cases x with
 |c n=>cases h
 |t n=>cases h
 |f n=>cases h
 |d x=>cases x<;>first|cases h;rfl|cases h
theorem aHf(a:SE K ta f)(b:SE K tb g):SE K (aDO ta tb) (lT f g):=by
 intro γ M x M' hh W H σ Q G R k;obtain⟨⟨y,M1⟩,h1,hh⟩:=aH hh;obtain⟨c,h2,hh⟩:=aH hh;refine a _ _ _ _ h1 W H σ _ G R fun v W1 H1 e1 G1 r1=>?_;have hy:y=_:=AJ h2;subst hy;refine⟨c,r1,?_⟩;cases c with
 |true=>rw[A3 rfl];rw[A3 rfl]at hh;exact b _ _ _ _ hh W1 H1 σ Q G1 (R.up e1) fun w W3 H3 e3 G3 r3=>k w W3 H3 (e1.trans e3) G3 r3
 |false=>
  rw[A7 A8];rw[A7 A8]at hh;cases hh;exact k _ W1 H1 e1 G1 rfl
theorem aII(a:SE K ta f)(b:SE K tb g):SE K (aIk ta tb) (fOr f g):=by
 intro γ M x M' hh W H σ Q G R k;obtain⟨⟨y,M1⟩,h1,hh⟩:=aH hh;obtain⟨c,h2,hh⟩:=aH hh;refine a _ _ _ _ h1 W H σ _ G R fun v W1 H1 e1 G1 r1=>?_;have hy:y=_:=AJ h2;subst hy;refine⟨c,r1,?_⟩;cases c with
 |true=>
  rw[A3 rfl];rw[A3 rfl]at hh;cases hh;exact k _ W1 H1 e1 G1 rfl
 |false=>rw[A7 A8];rw[A7 A8]at hh;exact b _ _ _ _ hh W1 H1 σ Q G1 (R.up e1) fun w W3 H3 e3 G3 r3=>k w W3 H3 (e1.trans e3) G3 r3
theorem aGm(a:SE K ta f):SE K (aDq ta) (wI f):=by
 intro γ M x M' hh W H σ Q G R k;obtain⟨⟨y,M1⟩,h1,hh⟩:=aH hh;obtain⟨c,h2,hh⟩:=aH hh;refine a _ _ _ _ h1 W H σ _ G R fun v W1 H1 e1 G1 r1=>?_;have hy:y=_:=AJ h2;subst hy;cases hh;exact⟨c,r1,k _ W1 H1 e1 G1 rfl⟩
theorem VR{r r':R2}{h h':F2}(p:P2 K r h)(p':P2 K r' h')(a:SE K ta f)(b:SE K tb g)(c:SE K tc e):SE K (aAd r r' ta tb tc) (tU h h' f g e):=by
 intro γ M x M' hh W H σ Q G R k;obtain⟨⟨y,M1⟩,h1,hh⟩:=aH hh;obtain⟨⟨z,M2⟩,h2,hh⟩:=aH hh;obtain⟨⟨w,M3⟩,h3,hh⟩:=aH hh;obtain⟨q,h4,hh⟩:=aH hh;refine a _ _ _ _ h1 W H σ _ G R fun v W1 H1 e1 G1 r1=>?_;refine b _ _ _ _ h2 W1 H1 σ _ G1 (R.up e1) fun u W2 H2 e2 G2 r2=>?_;refine p _ _ _ _ _ h3 W2 H2 v u _ G2 (r1.up e2) r2 fun t W3 H3 e3 G3 r3=>?_;have hy:w=_:=AJ h4;subst hy;refine⟨q,r3,?_⟩;have e13:=(e1.trans e2).trans e3;cases q with
 |true=>
  rw[A3 rfl];rw[A3 rfl]at hh;obtain⟨⟨m,M4⟩,h5,hh⟩:=aH hh;refine c _ _ _ _ h5 W3 H3 σ _ G3 (R.up e13) fun o W4 H4 e4 G4 r4=>?_;exact p' _ _ _ _ _ hh W4 H4 u o Q G4 (r2.up (e3.trans e4)) r4 fun w W5 H5 e5 G5 r5=>k w W5 H5 ((e13.trans e4).trans e5) G5 r5
 |false=>
  rw[A7 A8];rw[A7 A8]at hh;cases hh;exact k _ W3 H3 e13 G3 rfl
theorem aHh(a:STt K tt ft)(b:STt K uu gt):STt K (aIV tt uu) (kZ ft gt):=by
 intro γ M x M' hh W H σ Q G R k;obtain⟨⟨c,M1⟩,h1,hh⟩:=aH hh;refine a _ _ _ _ h1 W H σ _ G R fun W1 H1 e1 G1=>?_;cases c with
 |true=>rw[A3 rfl];rw[A3 rfl]at hh;exact b _ _ _ _ hh W1 H1 σ Q G1 (R.up e1) fun W3 H3 e3 G3=>k W3 H3 (e1.trans e3) G3
 |false=>rw[A7 A8];rw[A7 A8]at hh;cases hh;exact k W1 H1 e1 G1
theorem aHB(a:STt K tt ft)(b:STt K uu gt):STt K (tOr tt uu) (gOr ft gt):=by
 intro γ M x M' hh W H σ Q G R k;obtain⟨⟨c,M1⟩,h1,hh⟩:=aH hh;refine a _ _ _ _ h1 W H σ _ G R fun W1 H1 e1 G1=>?_;cases c with
 |true=>rw[A3 rfl];rw[A3 rfl]at hh;cases hh;exact k W1 H1 e1 G1
 |false=>rw[A7 A8];rw[A7 A8]at hh;exact b _ _ _ _ hh W1 H1 σ Q G1 (R.up e1) fun W3 H3 e3 G3=>k W3 H3 (e1.trans e3) G3
theorem aEM(a:STt K tt ft):STt K (aIE tt) (fO ft):=by
 intro γ M x M' hh W H σ Q G R k;obtain⟨⟨c,M1⟩,h1,hh⟩:=aH hh;cases hh;exact a _ _ _ _ h1 W H σ _ G R fun W1 H1 e1 G1=>k W1 H1 e1 G1
theorem aBa(a:SE K ta f):STt K (tB ta) (gB f):=by
 intro γ M x M' hh W H σ Q G R k;obtain⟨⟨y,M1⟩,h1,hh⟩:=aH hh;obtain⟨c,h2,hh⟩:=aH hh;refine a _ _ _ _ h1 W H σ _ G R fun v W1 H1 e1 G1 r1=>?_;have hy:y=_:=AJ h2;subst hy;cases hh;exact⟨_,r1,k W1 H1 e1 G1⟩
theorem aBq(a:SE K ta f):STt K (aDi ta) (gB f):=aBa a
theorem aGT:SA K RE aG:=by
 intro γ M x M' hh W H σ Q G R k;cases hh;exact k [] W H (.refl _) G .nil
theorem aBs(a:SE K ta f)(b:SA K tA fa):SA K (sJ ta tA) (aB f fa):=by
 intro γ M x M' hh W H σ Q G R k;obtain⟨⟨y,M1⟩,h1,hh⟩:=aH hh;obtain⟨⟨ys,M2⟩,h2,hh⟩:=aH hh;cases hh;refine a _ _ _ _ h1 W H σ _ G R fun v W1 H1 e1 G1 r1=>?_;exact b _ _ _ _ h2 W1 H1 σ _ G1 (R.up e1) fun vs W2 H2 e2 G2 r2=>k _ W2 H2 (e1.trans e2) G2 (.cons (r1.up e2) r2)
theorem aGV(b:SA K tA fa):SE K (aDX tA) (bL fa):=by
 intro γ M x M' hh W H σ Q G R k;obtain⟨⟨ys,M1⟩,h1,hh⟩:=aH hh;obtain⟨ds,h2,hh⟩:=aH hh;by_cases hl:ds.length<=sizeLine
 .rw[A3 hl]at hh;cases hh;refine b _ _ _ _ h1 W H σ _ G R fun vs W1 H1 e1 G1 r1=>?_;have ra:=fQ h2 r1;refine⟨by rw[<- ra.length];exact hl,fun p hp=>?_⟩;obtain⟨e2,G2⟩:=G1.lay (o:=.tup vs) hp;exact k _ _ _ (e1.trans e2) G2 ⟨p,vs,rfl,SqT.of aY,aL.same e2.ff _ _ ra⟩
 .rw[A7 hl]at hh;cases hh
theorem aGf(b:SA K tA fa):SE K (aDR tA) (fP fa):=by
 intro γ M x M' hh W H σ Q G R k;obtain⟨⟨ys,M1⟩,h1,hh⟩:=aH hh;obtain⟨ds,h2,hh⟩:=aH hh;by_cases hl:ds.length<=sizeLine
 .rw[A3 hl]at hh;cases hh;refine b _ _ _ _ h1 W H σ _ G R fun vs W1 H1 e1 G1 r1=>?_;have ra:=fQ h2 r1;refine⟨by rw[<- ra.length];exact hl,fun p hp=>?_⟩;obtain⟨e2,G2⟩:=G1.lay (o:=.lst vs) hp;exact k _ _ _ (e1.trans e2) G2 ⟨p,vs,rfl,SqL.of aY,aL.same e2.ff _ _ ra⟩
 .rw[A7 hl]at hh;cases hh
theorem Good.newV(g:Good K W M H){p:Addr}:cH K (W.more p) (.c M.length) (.ref p):=by
 refine⟨?_,?_⟩
 .show M.length<W.n+1;rw[g.n];exact J5 _
 .show V.ref p=.ref (if M.length=W.n then p else W.α M.length);rw[A3 g.n.symm]
theorem aGI(b:SA K tA fa):SE K (aDR tA) (kK fa):=by
 intro γ M x M' hh W H σ Q G R k;obtain⟨⟨ys,M1⟩,h1,hh⟩:=aH hh;by_cases hl:ys.length<=sizeLine
 .have hh:(if ys.length<=sizeLine then some (CD.c M1.length,M1++[Cell.lst ys])else none)=some (x,M'):=hh;rw[A3 hl]at hh;cases hh;refine b _ _ _ _ h1 W H σ _ G R fun vs W1 H1 e1 G1 r1=>?_;refine⟨by rw[<- Paired.len r1];exact hl,fun p hp=>?_⟩;exact k _ _ _ (e1.trans (W1.ext_more p)) (G1.new hp (c:=.lst ys) (o:=.lst vs) r1) G1.newV
 .have hh:(if ys.length<=sizeLine then some (CD.c M1.length,M1++[Cell.lst ys])else none)=some (x,M'):=hh;rw[A7 hl]at hh;cases hh
theorem aBk{h:FN}(b:SA K tA fa):SE K (WO (spM K h) [] E0 tA) (aK h fa):=by
 intro γ M x M' hh W H σ Q G R k;obtain⟨⟨ys,M1⟩,h1,hh⟩:=aH hh;refine b _ _ _ _ h1 W H σ _ G R fun vs W1 H1 e1 G1 r1=>?_;rw[C4];exact⟨ys,M1,W1,x,M',G1,r1,hh,fun v W2 H2 e2 G2 r2=>k v W2 H2 (e1.trans e2) G2 r2⟩
theorem aDy{r:List V->Hp->VK->Prop}{h:FN}(p:PN K r h)(b:SA K tA fa):SE K (tCB r tA) (aK h fa):=by
 intro γ M x M' hh W H σ Q G R k;obtain⟨⟨ys,M1⟩,h1,hh⟩:=aH hh;refine b _ _ _ _ h1 W H σ _ G R fun vs W1 H1 e1 G1 r1=>?_;exact p _ _ _ _ hh W1 H1 vs Q G1 r1 fun v W2 H2 e2 G2 r2=>k v W2 H2 (e1.trans e2) G2 r2
end
section
variable{K:Fg}{ta tb tc:TE}{f g e:EF}{tt uu:TT}{ft gt:TF}{tA:TA}{fa:AF}{t u:TS}{p q:SF}{tg:TG}{hg:GF}{tgs:TGs}{hgs:GsF}
theorem aAW:SS K aDr bC:=by
 intro γ M o M' hh W H σ D G R k;cases hh;exact k W H (.refl _) G σ R
theorem aGB(a:SS K t p)(b:SS K u q):SS K (aFH t u) (aO p q):=by
 intro γ M o M' hh W H σ D G R k;obtain⟨⟨o1,M1⟩,h1,hh⟩:=aH hh;refine a _ _ _ _ h1 W H σ _ G R fun W1 H1 e1 G1=>?_;cases o1 with
 |nx γ1=>
  intro σ1 R1;exact b _ _ _ _ hh W1 H1 σ1 D G1 R1 fun W2 H2 e2 G2=>k W2 H2 (e1.trans e2) G2
 |bk γ1=>cases hh;exact k W1 H1 e1 G1
 |ct γ1=>cases hh;exact k W1 H1 e1 G1
 |rt x=>cases hh;exact k W1 H1 e1 G1
theorem aCT(a:SE K ta f):SS K (VE ta) (lL f):=by
 intro γ M o M' hh W H σ D G R k;obtain⟨⟨y,M1⟩,h1,hh⟩:=aH hh;cases hh;exact a _ _ _ _ h1 W H σ _ G R fun v W1 H1 e1 G1 r1=>k W1 H1 e1 G1 σ (R.up e1)
theorem aGw(a:SE K ta f):SS K (aJe ta) (bK f):=by
 intro γ M o M' hh W H σ D G R k;obtain⟨⟨y,M1⟩,h1,hh⟩:=aH hh;cases hh;exact a _ _ _ _ h1 W H σ _ G R fun v W1 H1 e1 G1 r1=>k W1 H1 e1 G1 v r1
theorem aHn(c:STt K tt ft)(a:SS K t p)(b:SS K u q):SS K (aGk tt t u) (sIf ft p q):=by
 intro γ M o M' hh W H σ D G R k;obtain⟨⟨c1,M1⟩,h1,hh⟩:=aH hh;refine c _ _ _ _ h1 W H σ _ G R fun W1 H1 e1 G1=>?_;cases c1 with
 |true=>rw[A3 rfl];rw[A3 rfl]at hh;exact a _ _ _ _ hh W1 H1 σ D G1 (R.up e1) fun W3 H3 e3 G3=>k W3 H3 (e1.trans e3) G3
 |false=>rw[A7 A8];rw[A7 A8]at hh;exact b _ _ _ _ hh W1 H1 σ D G1 (R.up e1) fun W3 H3 e3 G3=>k W3 H3 (e1.trans e3) G3
theorem HB(a:SE K ta f)(b:SG K tg hg):SS K (WI ta tg) (aZ f hg):=by
 intro γ M o M' hh W H σ D G R k;obtain⟨⟨y,M1⟩,h1,hh⟩:=aH hh;obtain⟨⟨γ1,M2⟩,h2,hh⟩:=aH hh;cases hh;refine a _ _ _ _ h1 W H σ _ G R fun v W1 H1 e1 G1 r1=>?_;exact b _ _ _ _ _ h2 W1 H1 σ v _ G1 (R.up e1) r1 fun σ' W2 H2 e2 G2 R2=>k W2 H2 (e1.trans e2) G2 σ' R2
theorem dC.set{σ:St}{x:CD}{v:V}(R:dC K W γ σ)(i:Nat)(r:cH K W x v):dC K W (γ.set i (some x)) (σ.set i (some v)):=Paired.set (R:=JM K W) (show JM K W (some x) (some v)from r) i R
theorem yM{i:Nat}:SG K (zT i) (hName i):=by
 intro x γ M γ' M' hh W H σ v Q G R r k;cases hh;exact k _ W H (.refl _) G (dC.set R i r)
theorem aBU:SGs K aIf lR:=by
 intro xs γ M γ' M' hh W H σ vs Q G R r k;cases r with
 |nil=>cases hh;exact⟨rfl,k σ W H (.refl _) G R⟩
 |cons _ _=>cases hh
theorem ZL(a:SG K tg hg)(b:SGs K tgs hgs):SGs K (aDs tg tgs) (bT hg hgs):=by
 intro xs γ M γ' M' hh W H σ vs Q G R r k;cases r with
 |nil=>cases hh
 |@cons x v xs vs r1 r2=>
  obtain⟨⟨γ1,M1⟩,h1,hh⟩:=aH (show(hg x γ M).bind _=_ from hh);refine⟨v,vs,rfl,a _ _ _ _ _ h1 W H σ v _ G R r1 fun σ1 W1 H1 e1 G1 R1=>?_⟩;exact b _ _ _ _ _ hh W1 H1 σ1 vs _ G1 R1 (cA.up r2 e1) fun σ2 W2 H2 e2 G2 R2=>k σ2 W2 H2 (e1.trans e2) G2 R2
theorem aFD{n:Nat}(b:SGs K tgs hgs):SG K (aFs K n tgs) (lB n hgs):=by
 intro x γ M γ' M' hh W H σ v Q G R r k;cases x with
 |c _=>cases hh
 |f _=>cases hh
 |t xs=>
  have hh:(if xs.length=n then hgs (xs.map cdA) γ M else none)=some (γ',M'):=hh;by_cases hl:xs.length=n
  .rw[A3 hl]at hh;obtain⟨a,vs,rfl,h2,h3⟩:=r;have hp:=OH h3;exact⟨a,vs,rfl,SqT.of (G.fh _ _ h2),by rw[<- hl];simpa using(Paired.len h3).symm,b _ _ _ _ _ hh W H σ vs Q G R hp k⟩
  .rw[A7 hl]at hh;cases hh
 |d x=>
  cases x with
  |tuple ds=>
   have hh:(if ds.length=n then hgs (ds.map .d) γ M else none)=some (γ',M'):=hh;by_cases hl:ds.length=n
   .rw[A3 hl]at hh;obtain⟨a,vs,rfl,h2,h3⟩:=(show ∃a vs,v=.ref a/\SqT K W.F a vs/\aL K W.F ds vs from r);exact⟨a,vs,rfl,G.fh.seqT h2,by rw[<- h3.length];exact hl,b _ _ _ _ _ hh W H σ vs Q G R (gU h3) k⟩
   .rw[A7 hl]at hh;cases hh
  |_=>cases hh
noncomputable def P3(K:Fg)(r:V->V->V->Hp->(Hp->Prop)->Prop)(f:F3):Prop:=∀x y z M M',f x y z M=some M'->∀(W:Wd)(H:Hp)(v u w:V)(Q:Hp->Prop),Good K W M H->cH K W x v->cH K W y u->cH K W z w->(∀W' H',W.Ext W'->Good K W' M' H'->Q H')->r v u w H Q
theorem aEr{r:aBi}{s:F3}(p:P3 K r s)(a:SE K ta f)(b:SE K tb g):SG K (aHA ta tb r) (hSub f g s):=by
 intro x γ M γ' M' hh W H σ v Q G R rv k;obtain⟨⟨o,M1⟩,h1,hh⟩:=aH hh;obtain⟨⟨i,M2⟩,h2,hh⟩:=aH hh;obtain⟨M3,h3,hh⟩:=aH hh;cases hh;refine a _ _ _ _ h1 W H σ _ G R fun v1 W1 H1 e1 G1 r1=>?_;refine b _ _ _ _ h2 W1 H1 σ _ G1 (R.up e1) fun v2 W2 H2 e2 G2 r2=>?_;exact p _ _ _ _ _ h3 W2 H2 v1 v2 v _ G2 (r1.up e2) r2 (rv.up (e1.trans e2)) fun W3 H3 e3 G3=>k σ W3 H3 ((e1.trans e2).trans e3) G3 (R.up ((e1.trans e2).trans e3))
theorem aGg{i j:Nat}(b:SA K tA fa):SS K (aJc i j tA) (CK i j fa):=by
 intro γ M o M' hh W H σ D G R k;obtain⟨⟨ys,M1⟩,h1,hh⟩:=aH hh;refine b _ _ _ _ h1 W H σ _ G R fun vs W1 H1 e1 G1 r1=>?_;rcases r1 with _|⟨a1,_|⟨a2,_|_⟩⟩
 .cases hh
 .cases hh
 .cases hh;exact⟨_,_,rfl,k W1 H1 e1 G1 _ (dC.set (dC.set (R.up e1) i a1) j a2)⟩
 .cases hh
noncomputable def MZ(K:Fg)(J:It)(xs:List CD)(W:Wd):Prop:=∀W' M' H',W.Ext W'->Good K W' M' H'->
 (∀i x,xs[i]?=some x->J.go i H'/\∀y H'',J.yld i H' y H''->∃W'',W'.Ext W''/\Good K W'' M' H''/\cH K W'' x y)/\J.stop xs.length H'
noncomputable def SI(K:Fg)(wi:TI)(f:AF):Prop:=∀γ M xs M',f γ M=some (xs,M')->∀(W:Wd)(H:Hp)(σ:St)(R:It->Hp->Prop),Good K W M H->dC K W γ σ->(∀J W' H',W.Ext W'->Good K W' M' H'->MZ K J xs W'->R J H')->wi σ H R
noncomputable def fU(f:EF):AF:=fun γ M=>(f γ M).bind fun r=>match r.1 with
 |.d x=>(aQ x).bind fun ds=>some (ds.map .d,r.2)
 |_=>none
theorem aEj(a:SE K ta f):SI K (aCv K ta) (fU f):=by
 intro γ M xs M' hh W H σ R G Rs k;obtain⟨⟨y,M1⟩,h1,hh⟩:=aH hh;cases y with
 |c _=>cases hh
 |t _=>cases hh
 |f _=>cases hh
 |d y=>
  obtain⟨ds,h2,hh⟩:=aH (show(aQ y).bind _=_ from hh);cases hh;refine a _ _ _ _ h1 W H σ _ G Rs fun v W1 H1 e1 G1 r1=>?_;obtain⟨p,vs,rfl,hs,hr⟩:=mF (show Rep K W1.F y v from r1) h2;refine⟨p,rfl,?_⟩
  have item:∀(i:Nat)(x:CD)(W2:Wd),W1.Ext W2->(ds.map CD.d)[i]?=some x->∃u,vs[i]?=some u/\cH K W2 x u:=fun i x W2 e2 hx=>by
   obtain⟨u,hu,ru⟩:=Paired.get (gU hr) hx;exact⟨u,hu,ru.up e2⟩
  have hlen:(ds.map CD.d).length=vs.length:=by rw[A2];exact hr.length
  rcases hs with hs|hs
  .refine .inl ⟨vs,G1.fh.seq hs,k _ W1 H1 e1 G1 fun W2 M2 H2 e2 G2=>?_⟩;have hs2:SqL K H2 p vs:=G2.fh.seq (e2.ff.seq hs);refine⟨fun i x hx=>?_,?_⟩
   .obtain⟨u,hu,ru⟩:=item i x W2 e2 hx;refine⟨⟨vs,u,hs2,hu⟩,fun y' H'' hy=>⟨W2,.refl _,by rw[hy.1];exact G2,?_⟩⟩;have:=hy.2 vs hs2;rw[hu]at this;cases this;exact ru
   .rw[hlen];exact⟨vs,hs2,A6 _⟩
  .refine .inr ⟨vs,G1.fh.seqT hs,k _ W1 H1 e1 G1 fun W2 M2 H2 e2 G2=>?_⟩;have hs2:SqT K H2 p vs:=G2.fh.seqT (e2.ff.seqT hs);refine⟨fun i x hx=>?_,?_⟩
   .obtain⟨u,hu,ru⟩:=item i x W2 e2 hx;refine⟨⟨vs,u,hs2,hu⟩,fun y' H'' hy=>⟨W2,.refl _,by rw[hy.1];exact G2,?_⟩⟩;have:=hy.2 vs hs2;rw[hu]at this;cases this;exact ru
   .rw[hlen];exact⟨vs,hs2,A6 _⟩
noncomputable def fF(lo:Int)(n:Nat):List CD:=(List.range n).map fun i=>.d (.int (lo+(i:Nat)))
theorem JQ{lo:Int}{n i:Nat}{x:CD}(h:(fF lo n)[i]?=some x):i<n/\x=.d (.int (lo+i)):=by
 unfold fF at h;rw[C8]at h;by_cases hi:i<n
 .rw[List.getElem?_range hi]at h;exact⟨hi,(D5 h).symm⟩
 .rw[List.getElem?_eq_none_iff.mpr (by simpa using hi)]at h;cases h
noncomputable def cG(i:Int):Bool:=decide (-(2 ^ 62)<=i)&&decide (i<2 ^ 62)
noncomputable def cZ(f:AF):AF:=fun γ M=>(f γ M).bind fun r=>match r.1 with
 |[.d (.int j)]=>if cG j=true then some (fF 0 j.toNat,r.2)else none
 |_=>none
noncomputable def EY(f:AF):AF:=fun γ M=>(f γ M).bind fun r=>match r.1 with
 |[.d (.int i),.d (.int j)]=>if cG i=true/\cG j=true then some (fF i (j-i).toNat,r.2)else none
 |_=>none
theorem DL{lo:Int}{n:Nat}:MZ K (Itr lo n) (fF lo n) W:=fun W' M' H' e G=>
 ⟨fun i x hx=>⟨(JQ hx).1,fun y H'' hy=>⟨W',.refl _,by rw[hy.1];exact G,by rw[(JQ hx).2];exact hy.2⟩⟩,by show n<=_;simp[fF]⟩
theorem gC{i:Int}(h:cG i=true):-(2 ^ 62)<=i/\i<2 ^ 62:=by
 unfold cG at h;rw[B3]at h;exact⟨D6 h.1,D6 h.2⟩
theorem aBP(b:SA K tA fa):SI K (aDz tA) (cZ fa):=by
 intro γ M xs M' hh W H σ R G Rs k;obtain⟨⟨ys,M1⟩,h1,hh⟩:=aH hh;refine b _ _ _ _ h1 W H σ _ G Rs fun vs W1 H1 e1 G1 r1=>?_;revert hh;dsimp only;split
 .rename_i j;intro hh;by_cases hs:cG j=true
  .rw[A3 hs]at hh;cases hh;cases r1 with
   |cons r r'=>
    cases r';exact⟨j,by rw[show _=V.int j from r],(gC hs).1,(gC hs).2,k _ W1 H1 e1 G1 DL⟩
  .rw[A7 hs]at hh;cases hh
 .intro hh;cases hh
theorem aCy(b:SA K tA fa):SI K (aDu tA) (EY fa):=by
 intro γ M xs M' hh W H σ R G Rs k;obtain⟨⟨ys,M1⟩,h1,hh⟩:=aH hh;refine b _ _ _ _ h1 W H σ _ G Rs fun vs W1 H1 e1 G1 r1=>?_;revert hh;dsimp only;split
 .rename_i i j;intro hh;by_cases hs:cG i=true/\cG j=true
  .rw[A3 hs]at hh;cases hh;cases r1 with
   |cons r r'=>
    cases r' with
    |cons r2 r''=>
     cases r'';exact⟨i,j,by rw[show _=V.int i from r,show _=V.int j from r2],⟨(gC hs.1).1,(gC hs.1).2,(gC hs.2).1,(gC hs.2).2⟩,k _ W1 H1 e1 G1 DL⟩
  .rw[A7 hs]at hh;cases hh
 .intro hh;cases hh
theorem aEo{wi:TI}(i:SI K wi fa)(a:SG K tg hg)(b:SS K t p):SS K (aFP wi tg t) (kW fa hg p):=by
 intro γ M o M' hh W H σ D G R k;obtain⟨⟨xs,M1⟩,h1,hh⟩:=aH hh;have hh:iI hg p xs γ M1=some (o,M'):=hh;refine i _ _ _ _ h1 W H σ _ G R fun J W1 H1 e1 G1 gv=>?_;refine⟨fun j m σ' H'=>∃γ' M2 W2,j<=xs.length/\m=xs.length-j/\W1.Ext W2/\Good K W2 M2 H'/\dC K W2 γ' σ'/\iI hg p (xs.drop j) γ' M2=some (o,M'),⟨_,γ,M1,W1,E5 _,rfl,.refl _,G1,R.up e1,hh⟩,?_⟩;rintro j m σ' H' ⟨γ',M2,W2,hj,rfl,e2,G2,R2,h2⟩;obtain⟨gv1,gv2⟩:=gv W2 M2 H' e2 G2;by_cases hlt:j<xs.length
 .obtain⟨go,yl⟩:=gv1 j xs[j] (B8 hlt);rw[Y4 hlt]at h2;refine .inr ⟨go,fun σ3 H3=>∃γ3 M3 W3,W2.Ext W3/\Good K W3 M3 H3/\dC K W3 γ3 σ3/\iI hg p (xs.drop (j+1)) γ3 M3=some (o,M'),?_,fun y H3 hy=>?_⟩
  .rintro σ3 H3 ⟨γ3,M3,W3,e3,G3,R3,h3⟩;exact⟨_,by omega,γ3,M3,W3,hlt,rfl,e2.trans e3,G3,R3,h3⟩
  .obtain⟨W8,e8,G8,ry⟩:=yl y H3 hy;obtain⟨⟨γ4,M4⟩,h4,h2⟩:=aH (show(hg xs[j] γ' M2).bind _=_ from h2);obtain⟨⟨o5,M5⟩,h5,h2⟩:=aH h2;refine a _ _ _ _ _ h4 W8 _ σ' y _ G8 (R2.up e8) ry fun σ4 W4 H4 e4 G4 R4=>?_;refine b _ _ _ _ h5 W4 H4 σ4 _ G4 R4 fun W5 H5 e5 G5=>?_;have e25:=(e8.trans e4).trans e5;cases o5 with
   |nx γ5=>exact fun σ5 R5=>⟨γ5,M5,W5,e25,G5,R5,h2⟩
   |ct γ5=>exact fun σ5 R5=>⟨γ5,M5,W5,e25,G5,R5,h2⟩
   |bk γ5=>cases h2;exact k W5 H5 ((e1.trans e2).trans e25) G5
   |rt x=>cases h2;exact k W5 H5 ((e1.trans e2).trans e25) G5
 .have e:j=xs.length:=by omega
  subst e;rw[List.drop_length]at h2;cases h2;exact .inl ⟨gv2,k W2 H' (e1.trans e2) G2 σ' R2⟩
theorem YQ(c:STt K tt ft)(b:SS K t p):SS K (aAx tt t) (nV ft p):=by
 intro γ M o M' hh W H σ D G R k;unfold nV at hh;by_cases hex:∃n,(eY ft p n γ M).isSome=true
 .rw[dif_pos hex]at hh;generalize hex.choose=n at hh;refine⟨fun m σ' H'=>∃γ' M2 W2,W.Ext W2/\Good K W2 M2 H'/\dC K W2 γ' σ'/\eY ft p m γ' M2=some (o,M'),⟨n,γ,M,W,.refl _,G,R,hh⟩,?_⟩;rintro m σ' H' ⟨γ',M2,W2,e2,G2,R2,h2⟩;cases m with
  |zero=>cases h2
  |succ m=>
   obtain⟨⟨c3,M3⟩,h3,h2⟩:=aH (show(ft γ' M2).bind _=_ from h2);refine c _ _ _ _ h3 W2 H' σ' _ G2 R2 fun W3 H3 e3 G3=>?_;cases c3 with
   |true=>
    rw[A3 rfl];rw[A3 rfl]at h2;obtain⟨⟨o4,M4⟩,h4,h2⟩:=aH h2;refine⟨fun σ4 H4=>∃γ4 M4 W4,W2.Ext W4/\Good K W4 M4 H4/\dC K W4 γ4 σ4/\eY ft p m γ4 M4=some (o,M'),?_,?_⟩
    .rintro σ4 H4 ⟨γ4,M4,W4,e4,G4,R4,h4⟩;exact⟨m,J5 _,γ4,M4,W4,e2.trans e4,G4,R4,h4⟩
    .refine b _ _ _ _ h4 W3 H3 σ' _ G3 (R2.up e3) fun W5 H5 e5 G5=>?_;have e25:=e3.trans e5;cases o4 with
     |nx γ5=>exact fun σ5 R5=>⟨γ5,M4,W5,e25,G5,R5,h2⟩
     |ct γ5=>exact fun σ5 R5=>⟨γ5,M4,W5,e25,G5,R5,h2⟩
     |bk γ5=>cases h2;exact k W5 H5 (e2.trans e25) G5
     |rt x=>cases h2;exact k W5 H5 (e2.trans e25) G5
   |false=>
    rw[A7 A8];rw[A7 A8]at h2;cases h2;exact k W3 H3 (e2.trans e3) G3 σ' (R2.up e3)
 .rw[dif_neg hex]at hh;cases hh
theorem lV{c:TF}{b:SF}:∀{n m:Nat}{γ:Ga}{M:Sto}{r:Out×Sto},eY c b n γ M=some r->n<=m->eY c b m γ M=some r
 |0,_,_,_,_=>fun h _=>by cases h
 |n+1,0,_,_,_=>fun _ h=>by omega
 |n+1,m+1,γ,M,r=>fun h hl=>by
  obtain⟨⟨b1,M1⟩,h1,h⟩:=aH (show(c γ M).bind _=_ from h);show(c γ M).bind _=_;rw[h1];show(if b1=true then _ else _)=_;cases b1 with
  |false=>exact h
  |true=>
   rw[A3 rfl];rw[A3 rfl]at h;obtain⟨⟨o,M2⟩,h2,h⟩:=aH h;rw[h2];cases o with
   |nx γ'=>exact lV (n:=n) (m:=m) h (by omega)
   |ct γ'=>exact lV (n:=n) (m:=m) h (by omega)
   |bk γ'=>exact h
   |rt x=>exact h
theorem uL{c:TF}{b:SF}{n:Nat}{r:Out×Sto}(h:eY c b n γ M=some r):nV c b γ M=some r:=by
 unfold nV;have hex:∃n,(eY c b n γ M).isSome=true:=⟨n,by rw[h];rfl⟩;rw[dif_pos hex];have hs:=hex.choose_spec;cases q:eY c b hex.choose γ M with
 |none=>rw[q]at hs;cases hs
 |some r'=>
  rcases Nat.le_total n hex.choose with z|z
  .rw[lV h z]at q;exact q.symm▸rfl
  .rw[lV q z]at h;exact h
theorem GH{W:Wd}{γ:Ga}{σ:St}(R:dC K W γ σ):∀cap:List (Option Nat),dC K W (CC cap γ) (yA cap σ)
 |[]=>.nil
 |none::r=>.cons True.intro (GH R r)
 |some j::r=>by
  refine .cons ?_ (GH R r);show JM K W ((γ[j]?).join) ((σ[j]?).join);cases e:γ[j]? with
  |none=>
   have:σ[j]?=none:=by
    have hl:=Paired.len R;exact List.getElem?_eq_none_iff.mpr (by have:=List.getElem?_eq_none_iff.mp e;omega)
   rw[this];exact True.intro
  |some x=>
   obtain⟨y,hy,r'⟩:=Paired.get R e;rw[hy];exact r'
theorem HK{g:GF}{c:TF}{e:EF}:∀{xs:List CD}{γ:Ga}{M:Sto}{ys:List CD}{M':Sto},lcF g c e xs γ M=some (ys,M')->ys.length<=xs.length
 |[],_,_,_,_=>fun h=>by cases h;exact E5 _
 |x::xs,γ,M,ys,M'=>fun h=>by
  obtain⟨⟨γ1,M1⟩,h1,h⟩:=aH (show(g x γ M).bind _=_ from h);obtain⟨⟨b,M2⟩,h2,h⟩:=aH h;cases b with
  |true=>
   rw[A3 rfl]at h;obtain⟨⟨y,M3⟩,h3,h⟩:=aH h;obtain⟨⟨zs,M4⟩,h4,h⟩:=aH h;cases h;have:=HK h4;simp only[List.length_cons];omega
  |false=>
   rw[A7 A8]at h;have:=HK h;simp only[List.length_cons];omega
theorem VA{wi:TI}{cap:List (Option Nat)}{te:TE}{fe:EF}(i:SI K wi fa)(a:SG K tg hg)(c:STt K tt ft)(b:SE K te fe){xs:List CD}(hh:DA cap fa hg ft fe γ M=some (xs,M'))
 {W:Wd} {H:Hp} {σ:St} {Q:VK} (G:Good K W M H) (R:dC K W γ σ) (k:∀vs W' H',W.Ext W'->Good K W' M' H'->cA K W' xs vs->∀p,H' p=none->Q (.ref p) (upd H' p (.lst vs))):tLc cap wi tg tt te σ H Q:=by
 obtain⟨⟨ys,M1⟩,h1,hh⟩:=aH hh;have hh:(if ys.length<=sizeLine then lcF hg ft fe ys (CC cap γ) M1 else none)=some (xs,M'):=hh;by_cases hl:ys.length<=sizeLine
 .rw[A3 hl]at hh;refine i _ _ _ _ h1 W H σ _ G R fun J W1 H1 e1 G1 gv=>?_
  refine⟨fun j m acc σ' H'=>∃γ' M2 W2 pre suf,j<=ys.length/\m=ys.length-j/\acc.length<=j/\W1.Ext W2/\Good K W2 M2 H'/\dC K W2 γ' σ'/\cA K W2 pre acc/\pre++suf=xs/\lcF hg ft fe (ys.drop j) γ' M2=some (suf,M'),
   ⟨_,CC cap γ,M1,W1,[],xs,E5 _,rfl,E5 _,.refl _,G1,GH (R.up e1) cap,.nil,rfl,hh⟩,?_⟩
  rintro j m acc σ' H' ⟨γ',M2,W2,pre,suf,hj,rfl,hacc,e2,G2,R2,rp,hx,h2⟩;obtain⟨gv1,gv2⟩:=gv W2 M2 H' e2 G2;by_cases hlt:j<ys.length
  .obtain⟨go,yl⟩:=gv1 j ys[j] (B8 hlt);rw[Y4 hlt]at h2;refine .inr ⟨go,by omega,fun acc3 σ3 H3=>∃γ3 M3 W3 pre3 suf3,acc3.length<=j+1/\W2.Ext W3/\Good K W3 M3 H3/\dC K W3 γ3 σ3/\cA K W3 pre3 acc3/\pre3++suf3=xs/\lcF hg ft fe (ys.drop (j+1)) γ3 M3=some (suf3,M'),?_,fun y H3 hy=>?_⟩
   .rintro acc3 σ3 H3 ⟨γ3,M3,W3,pre3,suf3,hl3,e3,G3,R3,rp3,hx3,h3⟩;exact⟨_,by omega,γ3,M3,W3,pre3,suf3,hlt,rfl,hl3,e2.trans e3,G3,R3,rp3,hx3,h3⟩
   .obtain⟨W8,e8,G8,ry⟩:=yl y H3 hy;obtain⟨⟨γ4,M4⟩,h4,h2⟩:=aH (show(hg ys[j] γ' M2).bind _=_ from h2);obtain⟨⟨b5,M5⟩,h5,h2⟩:=aH h2;refine a _ _ _ _ _ h4 W8 _ σ' y _ G8 (R2.up e8) ry fun σ4 W4 H4 e4 G4 R4=>?_;refine c _ _ _ _ h5 W4 H4 σ4 _ G4 R4 fun W5 H5 e5 G5=>?_;have e25:=(e8.trans e4).trans e5;cases b5 with
    |true=>
     rw[A3 rfl]at h2;obtain⟨⟨z,M6⟩,h6,h2⟩:=aH h2;obtain⟨⟨zs,M7⟩,h7,h2⟩:=aH h2;cases h2;refine .inl ⟨rfl,b _ _ _ _ h6 W5 H5 σ4 _ G5 (R4.up e5) fun v W6 H6 e6 G6 r6=>?_⟩;refine⟨γ4,M6,W6,pre++[z],zs,by rw[B4];simp only[List.length_singleton];omega,e25.trans e6,G6,R4.up (e5.trans e6),Paired.app (cA.up rp (e25.trans e6)) (.cons r6 .nil),by rw[<- hx,C2];rfl,h7⟩
    |false=>
     rw[A7 A8]at h2;exact .inr ⟨rfl,γ4,M5,W5,pre,suf,by omega,e25,G5,R4.up e5,cA.up rp e25,hx,h2⟩
  .have e:j=ys.length:=by omega
   subst e;rw[List.drop_length]at h2;cases h2;rw[C4]at hx;subst hx;exact .inl ⟨gv2,k acc W2 H' (e1.trans e2) G2 rp⟩
 .rw[A7 hl]at hh;cases hh
theorem RU{cap:List (Option Nat)}{fa:AF}{hg:GF}{ft:TF}{fe:EF}{xs:List CD}(hh:DA cap fa hg ft fe γ M=some (xs,M')):xs.length<=sizeLine:=by
 obtain⟨⟨ys,M1⟩,h1,hh⟩:=aH hh;have hh:(if ys.length<=sizeLine then lcF hg ft fe ys (CC cap γ) M1 else none)=some (xs,M'):=hh;by_cases hl:ys.length<=sizeLine
 .rw[A3 hl]at hh;exact F0 (HK hh) hl
 .rw[A7 hl]at hh;cases hh
theorem aIh{wi:TI}{cap:List (Option Nat)}{te:TE}{fe:EF}(i:SI K wi fa)(a:SG K tg hg)(c:STt K tt ft)(b:SE K te fe):SE K (tLc cap wi tg tt te) (fLc cap fa hg ft fe):=by
 intro γ M x M' hh W H σ Q G R k;obtain⟨⟨ys,M1⟩,h1,hh⟩:=aH hh;obtain⟨ds,h2,hh⟩:=aH hh;by_cases hl:ds.length<=sizeLine
 .rw[A3 hl]at hh;cases hh;refine VA i a c b h1 G R fun vs W1 H1 e1 G1 r1 p hp=>?_;obtain⟨e2,G2⟩:=G1.lay (o:=.lst vs) hp;exact k _ _ _ (e1.trans e2) G2 ⟨p,vs,rfl,SqL.of aY,aL.same e2.ff _ _ (fQ h2 r1)⟩
 .rw[A7 hl]at hh;cases hh
theorem aHa{wi:TI}{cap:List (Option Nat)}{te:TE}{fe:EF}(i:SI K wi fa)(a:SG K tg hg)(c:STt K tt ft)(b:SE K te fe):SE K (tLc cap wi tg tt te) (aAy cap fa hg ft fe):=by
 intro γ M x M' hh W H σ Q G R k;obtain⟨⟨ys,M1⟩,h1,hh⟩:=aH hh;have hh:(if ys.length<=sizeLine then some (CD.c M1.length,M1++[Cell.lst ys])else none)=some (x,M'):=hh;rw[A3 (RU h1)]at hh;cases hh;refine VA i a c b h1 G R fun vs W1 H1 e1 G1 r1 p hp=>?_;exact k _ _ _ (e1.trans (W1.ext_more p)) (G1.new hp (c:=.lst ys) (o:=.lst vs) r1) G1.newV
theorem aGo:STt K aHo jH:=by
 intro γ M x M' hh W H σ Q G R k;cases hh;exact k W H (.refl _) G
theorem cA.some{W:Wd}:∀{xs:List CD}{vs:List V},cA K W xs vs->dC K W (xs.map some) (vs.map some)
 |_,_,.nil=>.nil
 |_,_,.cons r t=>.cons r (cA.some t)
theorem vN{W:Wd}:∀n:Nat,dC K W (List.replicate n none) (List.replicate n none)
 |0=>.nil
 |n+1=>.cons True.intro (vN n)
theorem Def.okM{P:Program}{w:World}{mg:Str->Option Value}{base:Heap}{x:Str}{st:Stmt}{N ps:List Str}{k:Nat}{b:SF}{q:Bool}(D:Def K mg x st)(S:aX N ps (aI st))
 (hb:∀(kV doc pm:Value)(an:Option Addr)(cdv ct:Value)(us:List Value),us.length=ps.length->bindArgs (PySem.W.fnOf x x (gW st) (dB st) (aI st) .none kV doc pm an cdv ct) ⟨us,[]⟩=pure (ps.zip us))
 (hbody:∀(f:Addr)(cdv:Value)(A:Around)(outer:List Env)(s:Shared)(H:Hp)(E:XK),eE k (A.deeper (envOfC x (aI st) s.heap.objs.size f cdv)) q->
  ∃t,PSs (oO CX0 P w K mg base N x (aI st) f cdv A outer s H E q).nox (dB st) t/\SS K t b):Callee P w K mg base (k+1) x ps (spM K (fnF ps.length N.length b)) q:=by
 have len:∀vs H Q E,spM K (fnF ps.length N.length b) vs H Q E->vs.length=ps.length:=fun vs H Q E h=>by
  obtain⟨xs,M,W,y,M',G,R,hf,_⟩:=h;by_cases hl:xs.length=ps.length
  .rw[<- Paired.len R];exact hl
  .unfold fnF at hf;rw[A7 hl]at hf;cases hf
 refine D.ok S hb len fun f cdv A outer s H vs Q E hr h=>?_;obtain⟨t,hP,hS⟩:=hbody f cdv A outer s H E hr;refine⟨t,hP,?_⟩;obtain⟨xs,M,W,y,M',G,R,hf,k⟩:=h;by_cases hl:xs.length=ps.length
 .unfold fnF at hf;rw[A3 hl]at hf;obtain⟨⟨o,M1⟩,h1,hf⟩:=aH hf
  have hR:dC K W (xs.map some++List.replicate (N.length-xs.length) none) (start N vs):=by
   unfold start;rw[<- Paired.len R];exact Paired.app (cA.some R) (vN _)
  refine hS _ _ _ _ h1 W H _ _ G hR fun W1 H1 e1 G1=>?_;cases o with
  |rt x=>cases hf;exact fun v r=>k v W1 H1 e1 G1 r
  |nx γ=>cases hf;exact fun σ r=>k .non W1 H1 e1 G1 rfl
  |bk γ=>cases hf
  |ct γ=>cases hf
 .unfold fnF at hf;rw[A7 hl]at hf;cases hf
end
noncomputable def KH(h h':F2):F2:=fun x y M=>match h x y M with
 |some r=>some r
 |none=>h' x y M
noncomputable def pI(g:Int->Int->Option PyData):F2:=fun x y M=>match x,y with
 |.d (.int i),.d (.int j)=>(g i j).bind fun z=>some (.d z,M)
 |_,_=>none
theorem aAc{g:Int->Int->Option PyData}{x y:CD}{z:CD}(h:pI g x y M=some (z,M')):∃i j w,x=.d (.int i)/\y=.d (.int j)/\g i j=some w/\z=.d w/\M'=M:=by
 unfold pI at h;split at h
 .rename_i i j;obtain⟨w,h1,h⟩:=aH h;cases h;exact⟨i,j,w,rfl,rfl,h1,rfl,rfl⟩
 .cases h
section
variable{X:Cx}{K:Fg}
theorem aDL{g:Int->Int->Int}:P2 K (rI0 fun i j=>.int (g i j)) (pI fun i j=>some (.int (g i j))):=by
 intro x y M z M' h W H v u Q G rx ry k;obtain⟨i,j,w,rfl,rfl,hw,rfl,rfl⟩:=aAc h;cases hw;exact⟨i,j,rx,ry,k _ W H (.refl _) G rfl⟩
theorem QV{g:Int->Int->Bool}:P2 K (rI0 fun i j=>.bl (g i j)) (pI fun i j=>some (.bool (g i j))):=by
 intro x y M z M' h W H v u Q G rx ry k;obtain⟨i,j,w,rfl,rfl,hw,rfl,rfl⟩:=aAc h;cases hw;exact⟨i,j,rx,ry,k _ W H (.refl _) G rfl⟩
noncomputable def ifS(c:Bool)(x:PyData):Option PyData:=if c=true then some x else none
theorem aEQ{c:Bool}{x y:PyData}(h:ifS c x=some y):c=true/\y=x:=by
 unfold ifS at h;cases c with
 |true=>rw[A3 rfl]at h;cases h;exact⟨rfl,rfl⟩
 |false=>rw[A7 A8]at h;cases h
theorem aBN{C:Int->Int->Prop}{c:Int->Int->Bool}{g:Int->Int->Int}(hc:∀i j,c i j=true->C i j):P2 K (rI C fun i j=>.int (g i j)) (pI fun i j=>ifS (c i j) (.int (g i j))):=by
 intro x y M z M' h W H v u Q G rx ry k;obtain⟨i,j,w,rfl,rfl,hw,rfl,rfl⟩:=aAc h;obtain⟨h1,rfl⟩:=aEQ hw;exact⟨i,j,rx,ry,hc i j h1,k _ W H (.refl _) G rfl⟩
noncomputable def aIj:F2:=pI fun i j=>some (.int (i+j))
noncomputable def sE:F2:=pI fun i j=>some (.int (i-j))
noncomputable def jC(i j:Int):Bool:=decide (i.natAbs<2 ^ 64) || decide (j.natAbs<2 ^ 64) || (decide (i.natAbs<xO)&&decide (j.natAbs<xO))
noncomputable def sI:F2:=pI fun i j=>ifS (jC i j) (.int (i*j))
noncomputable def vL(_ j:Int):Bool:=decide (0<j)&&decide (j.natAbs<xO)
noncomputable def kR:F2:=pI fun i j=>ifS (vL i j) (.int (i / j))
noncomputable def hX(_ j:Int):Bool:=decide (0<j)
noncomputable def gN:F2:=pI fun i j=>ifS (hX i j) (.int (i % j))
noncomputable def YC(i j:Int):Bool:=decide (0<=j)&&decide (j<=1000000)&&decide (i.natAbs<2 ^ 64)
noncomputable def CB:F2:=pI fun i j=>ifS (YC i j) (.int (i ^ j.toNat))
theorem mulOk_of{i j:Int}(h:jC i j=true):JW i j:=by
 unfold jC at h;simp only[Bool.or_eq_true,Bool.and_eq_true,decide_eq_true_eq]at h;rcases h with(h|h)|h
 .exact .inl (.inl ⟨by omega,by omega⟩)
 .exact .inl (.inr ⟨by omega,by omega⟩)
 .exact .inr h
noncomputable def ltI:F2:=pI fun i j=>some (.bool (decide (i<j)))
noncomputable def leI:F2:=pI fun i j=>some (.bool (decide (i<=j)))
noncomputable def gtI:F2:=pI fun i j=>some (.bool (decide (j<i)))
noncomputable def geI:F2:=pI fun i j=>some (.bool (decide (j<=i)))
noncomputable def eqD(neg:Bool):F2:=fun x y M=>match x,y with
 |.d a,.d b=>if (SeqAt.shaped a&&SeqAt.shaped b)=true then some (.d (.bool (if neg then !PyData.eqv a b else PyData.eqv a b)),M)else none
 |_,_=>none
theorem aDF{neg:Bool}:P2 K (NT K neg) (eqD neg):=by
 intro x y M z M' h W H v u Q G rx ry k;unfold eqD at h;split at h
 .rename_i a b;by_cases hs:(SeqAt.shaped a&&SeqAt.shaped b)=true
  .rw[A3 hs]at h;cases h;rw[B3]at hs;exact⟨a,b,Rep.same G.fh _ _ rx,Rep.same G.fh _ _ ry,hs.1,hs.2,k _ W H (.refl _) G rfl⟩
  .rw[A7 hs]at h;cases h
 .cases h
noncomputable def inD(neg:Bool):F2:=fun x y M=>match x,y with
 |.d a,.d b=>(aQ b).bind fun ds=>if (SeqAt.shaped a&&ds.all SeqAt.shaped)=true then some (.d (.bool (if neg then !ds.any fun d=>PyData.eqv d a else ds.any fun d=>PyData.eqv d a)),M)else none
 |_,_=>none
theorem aHI{neg:Bool}:P2 K (aFb K neg) (inD neg):=by
 intro x y M z M' h W H v u Q G rx ry k;unfold inD at h;split at h
 .rename_i a b;obtain⟨ds,h1,h⟩:=aH h;by_cases hs:(SeqAt.shaped a&&ds.all SeqAt.shaped)=true
  .rw[A3 hs]at h;cases h;rw[B3]at hs;obtain⟨p,vs,rfl,hq,hr⟩:=mF (Rep.same G.fh _ _ ry) h1;exact⟨a,ds,p,vs,Rep.same G.fh _ _ rx,rfl,hq,hr,hs.1,hs.2,k _ W H (.refl _) G rfl⟩
  .rw[A7 hs]at h;cases h
 .cases h
theorem aL.nth{ds:List PyData}{vs:List V}{i:Nat}{d:PyData}(h:aL K H ds vs)(e:ds[i]?=some d):∃v,vs[i]?=some v/\Rep K H d v:=by
 have hlt:i<vs.length:=by rw[<- h.length];exact(List.getElem?_eq_some_iff.mp e).1
 have hv:vs[i]?=some vs[i]:=B8 hlt;obtain⟨d',hd',r⟩:=h.get hv;rw[e]at hd';cases hd';exact⟨_,hv,r⟩
theorem LP{α:Type}{xs:List α}{i:Int}{x:α}(h:atI xs i=some x):∃j,ixN xs.length i=some j/\xs[j]?=some x:=by
 unfold atI at h;exact aH h
theorem GG{α:Type}{xs:List α}{i:Int}{j:Nat}{x:α}(h:ixN xs.length i=some j)(e:xs[j]?=some x):atI xs i=some x:=by
 unfold atI;rw[h];exact e
noncomputable def ixF:F2:=fun x y M=>match x,y with
 |.d a,.d (.int n)=>(aQ a).bind fun ds=>(atI ds n).bind fun e=>some (.d e,M)
 |.c i,.d (.int n)=>match M[i]? with
  |some (.lst xs)=>(atI xs n).bind fun e=>some (e,M)
  |_=>none
 |.t xs,.d (.int n)=>(atI xs n).bind fun e=>some (cdA e,M)
 |_,_=>none
theorem Good.lstAt{i:Nat}{xs:List CD}(G:Good K W M H)(h:M[i]?=some (.lst xs)):∃vs,H (W.α i)=some (.lst vs)/\cA K W xs vs:=by
 obtain⟨_,o,h2,h3⟩:=G.cs i _ h (by intro z;cases z);cases o with
 |lst vs=>exact⟨vs,h2,h3⟩
 |_=>exact False.elim h3
theorem aID:P2 K (rIx K) ixF:=by
 intro x y M z M' h W H v u Q G rx ry k;unfold ixF at h;split at h
 .rename_i a n;obtain⟨ds,h1,h⟩:=aH h;obtain⟨e,h2,h⟩:=aH h;cases h;obtain⟨p,vs,rfl,hq,hr⟩:=mF (Rep.same G.fh _ _ rx) h1;obtain⟨j,hj,he⟩:=LP h2;obtain⟨w,hw,rw'⟩:=hr.nth he;have hlen:=hr.length;have hat:atI vs n=some w:=GG (by rw[<- hlen];exact hj) hw;obtain⟨p',vs',e',hq',hr'⟩:=mF (show Rep K W.F a (.ref p)from rx) h1;cases e'
  have same:∀w',vs'[j]?=some w'->Rep K W.F e w':=fun w' hw'=>by
   obtain⟨w2,h3,h4⟩:=hr'.nth he;rw[hw']at h3;cases h3;exact h4
  obtain⟨w',hw',r'⟩:=hr'.nth he;have hat':atI vs' n=some w':=GG (by rw[<- hr'.length];exact hj) hw';rcases hq' with hq'|hq'
  .exact .inl ⟨p,vs',n,w',rfl,ry,G.fh.seq hq',hat',k _ W H (.refl _) G r'⟩
  .exact .inr (.inl ⟨p,vs',n,w',rfl,ry,G.fh.seqT hq',hat',k _ W H (.refl _) G r'⟩)
 .rename_i i n;split at h
  .rename_i xs hx;obtain⟨e,h2,h⟩:=aH h;cases h;obtain⟨vs,hv,hr⟩:=G.lstAt hx;obtain⟨j,hj,he⟩:=LP h2;obtain⟨w,hw,r'⟩:=Paired.get hr he;have hat:atI vs n=some w:=GG (by rw[<- Paired.len hr];exact hj) hw;rw[show v=.ref (W.α i)from rx.2];exact .inl ⟨_,vs,n,w,rfl,ry,SqL.of hv,hat,k _ W H (.refl _) G r'⟩
  .cases h
 .rename_i xs n;obtain⟨e,h2,h⟩:=aH h;cases h;obtain⟨a,vs,rfl,hv,hr⟩:=rx;obtain⟨j,hj,he⟩:=LP h2;obtain⟨w,hw,r'⟩:=Paired.get hr he;have hat:atI vs n=some w:=GG (by rw[<- Paired.len hr];exact hj) hw;exact .inr (.inl ⟨_,vs,n,w,rfl,ry,SqT.of (G.fh _ _ hv),hat,k _ W H (.refl _) G (by cases e<;>exact r')⟩)
 .cases h
noncomputable def eF:FN:=fun xs M=>match xs with
 |[.d a]=>(aQ a).bind fun ds=>some (.d (.int ds.length),M)
 |[.c i]=>match M[i]? with
  |some (.lst ys)=>some (.d (.int ys.length),M)
  |_=>none
 |[.t xs]=>some (.d (.int xs.length),M)
 |_=>none
theorem aGZ:PN K (fun xs H Q=>∃p ys,xs=[.ref p]/\(SqL K H p ys\/SqT K H p ys)/\Q (.int ys.length) H) eF:=by
 intro xs M z M' h W H vs Q G r k;unfold eF at h;split at h
 .rename_i a;obtain⟨ds,h1,h⟩:=aH h;cases h;rcases r with _|⟨r1,_|_⟩;obtain⟨p,us,rfl,hq,hr⟩:=mF (Rep.same G.fh _ _ r1) h1;refine⟨p,us,rfl,hq,?_⟩;rw[<- hr.length];exact k _ W H (.refl _) G rfl
 .rename_i i;split at h
  .rename_i ys hy;cases h;rcases r with _|⟨r1,_|_⟩;obtain⟨us,hv,hr⟩:=G.lstAt hy;rw[r1.2];refine⟨_,us,rfl,.inl (SqL.of hv),?_⟩;rw[<- Paired.len hr];exact k _ W H (.refl _) G rfl
  .cases h
 .rename_i xs;cases h;rcases r with _|⟨r1,_|_⟩;obtain⟨a,us,rfl,hv,hr⟩:=r1;refine⟨_,us,rfl,.inr (SqT.of (G.fh _ _ hv)),?_⟩;rw[<- Paired.len hr];exact k _ W H (.refl _) G rfl
 .cases h
noncomputable def listF:FN:=fun xs M=>match xs with
 |[.d a]=>(aQ a).bind fun ds=>some (.d (.list ds),M)
 |[.c i]=>match M[i]? with
  |some (.lst ys)=>(mW ys).bind fun ds=>some (.d (.list ds),M)
  |_=>none
 |_=>none
noncomputable def dN:FN:=fun xs M=>match xs with
 |[.d (.list ds)]=>some (.d (.tuple ds),M)
 |[.d (.tuple ds)]=>some (.d (.tuple ds),M)
 |[.c i]=>match M[i]? with
  |some (.lst ys)=>(mW ys).bind fun ds=>some (.d (.tuple ds),M)
  |_=>none
 |_=>none
theorem UZ:PN K (fun xs H Q=>∃p ys,xs=[.ref p]/\((SqL K H p ys/\∀l,H l=none->Q (.ref l) (upd H l (.tup ys)))\/(SqT K H p ys/\Q (.ref p) H))) dN:=by
 intro xs M z M' h W H vs Q G r k;unfold dN at h;split at h
 .rename_i ds;cases h;rcases r with _|⟨r1,_|_⟩;obtain⟨p,us,rfl,hq,hr⟩:=(show ∃a us,_=V.ref a/\SqL K W.F a us/\aL K W.F ds us from r1);refine⟨p,us,rfl,.inl ⟨G.fh.seq hq,fun l hl=>?_⟩⟩;obtain⟨e2,G2⟩:=G.lay (o:=.tup us) hl;exact k _ _ _ e2 G2 ⟨l,us,rfl,SqT.of aY,aL.same e2.ff _ _ hr⟩
 .rename_i ds;cases h;rcases r with _|⟨r1,_|_⟩;obtain⟨p,us,rfl,hq,hr⟩:=(show ∃a us,_=V.ref a/\SqT K W.F a us/\aL K W.F ds us from r1);exact⟨p,us,rfl,.inr ⟨G.fh.seqT hq,k _ W H (.refl _) G ⟨p,us,rfl,hq,hr⟩⟩⟩
 .rename_i i;split at h
  .rename_i ys hy;obtain⟨ds,h1,h⟩:=aH h;cases h;rcases r with _|⟨r1,_|_⟩;obtain⟨us,hv,hr⟩:=G.lstAt hy;rw[r1.2];refine⟨_,us,rfl,.inl ⟨SqL.of hv,fun l hl=>?_⟩⟩;obtain⟨e2,G2⟩:=G.lay (o:=.tup us) hl;exact k _ _ _ e2 G2 ⟨l,us,rfl,SqT.of aY,aL.same e2.ff _ _ (fQ h1 hr)⟩
  .cases h
 .cases h
noncomputable def kM(T:String)(f:EF):EF:=fun γ M=>(f γ M).bind fun r=>match r.1 with
 |.d a=>some (.d (.bool (zN T a)),r.2)
 |_=>none
theorem aDV{T:String}{ta:TE}{f:EF}(hT:T∈asked)(a:SE K ta f):SE K (tCB (aEJ K) (sJ ta (sJ (tC (.ty T)) RE))) (kM T f):=by
 intro γ M x M' hh W H σ Q G R k;obtain⟨⟨y,M1⟩,h1,hh⟩:=aH hh;cases y with
 |c _=>cases hh
 |t _=>cases hh
 |f _=>cases hh
 |d y=>
  cases hh;refine a _ _ _ _ h1 W H σ _ G R fun v W1 H1 e1 G1 r1=>?_;exact⟨v,T,y,rfl,hT,Rep.same G1.fh _ _ r1,k _ W1 H1 e1 G1 rfl⟩
noncomputable def IT(T U:String)(f:EF):EF:=fun γ M=>(f γ M).bind fun r=>match r.1 with
 |.d a=>some (.d (.bool (zN T a || zN U a)),r.2)
 |_=>none
theorem aBK{T U:String}{ta:TE}{f:EF}(hT:T∈asked)(hU:U∈asked)(a:SE K ta f):SE K (tCB (WM K) (sJ ta (sJ (aDX (sJ (tC (.ty T)) (sJ (tC (.ty U)) RE))) RE))) (IT T U f):=by
 intro γ M x M' hh W H σ Q G R k;obtain⟨⟨y,M1⟩,h1,hh⟩:=aH hh;cases y with
 |c _=>cases hh
 |t _=>cases hh
 |f _=>cases hh
 |d y=>
  cases hh;refine a _ _ _ _ h1 W H σ _ G R fun v W1 H1 e1 G1 r1=>?_;refine⟨by show 2<=sizeLine;decide,fun p hp=>?_⟩;obtain⟨e2,G2⟩:=G1.lay (o:=.tup [.ty T,.ty U]) hp;refine⟨v,p,[T,U],y,rfl,aY,fun S hS=>?_,Rep.same (e2.ff.trans G2.fh) _ _ r1,?_⟩
  .rcases List.mem_cons.mp hS with rfl|hS
   .exact hT
   .rw[List.mem_singleton.mp hS];exact hU
  .have e:([T,U].any fun T=>zN T y)=(zN T y || zN U y):=by simp
   rw[e];exact k _ _ _ (e1.trans e2) G2 rfl
noncomputable def aBy(M:Sto):CD->Option Bool
 |.d .none=>some false
 |.d (.bool b)=>some b
 |.d (.int i)=>some (i != 0)
 |.d (.list ds)=>some (!ds.isEmpty)
 |.d (.tuple ds)=>some (!ds.isEmpty)
 |.c i=>match M[i]? with
  |some (.lst xs)=>some (!xs.isEmpty)
  |some (.dk kvs)=>some (!kvs.isEmpty)
  |_=>none
 |_=>none
noncomputable def nA(f:EF):TF:=fun γ M=>(f γ M).bind fun r=>(aBy r.2 r.1).bind fun b=>some (b,r.2)
theorem mD{α β:Type}{xs:List α}{ys:List β}(h:xs.length=ys.length):xs.isEmpty=ys.isEmpty:=by
 cases xs<;>cases ys<;>simp at h ⊢
theorem aFI{ta:TE}{f:EF}(a:SE K ta f):STt K (fun σ H Q=>ta σ H fun x H'=>∃k,aBJ K x H' k/\Q k H') (nA f):=by
 intro γ M b M' hh W H σ Q G R k;obtain⟨⟨y,M1⟩,h1,hh⟩:=aH hh;obtain⟨b1,h2,hh⟩:=aH hh;cases hh;refine a _ _ _ _ h1 W H σ _ G R fun v W1 H1 e1 G1 r1=>⟨_,?_,k W1 H1 e1 G1⟩;cases y with
 |d y=>
  cases y with
  |none=>cases h2;rw[show v=.non from r1];rfl
  |bool c=>cases h2;rw[show v=.bl _ from r1];rfl
  |int i=>cases h2;rw[show v=.int _ from r1];rfl
  |str x=>cases h2
  |list ds=>
   cases h2;obtain⟨p,us,rfl,hq,hr⟩:=(show ∃a us,_=V.ref a/\SqL K W1.F a us/\aL K W1.F ds us from r1);exact .inl ⟨us,G1.fh.seq hq,by rw[mD hr.length]⟩
  |tuple ds=>
   cases h2;obtain⟨p,us,rfl,hq,hr⟩:=(show ∃a us,_=V.ref a/\SqT K W1.F a us/\aL K W1.F ds us from r1);exact .inr (.inl ⟨us,G1.fh.seqT hq,by rw[mD hr.length]⟩)
  |dict kvs=>cases h2
 |t _=>cases h2
 |f _=>cases h2
 |c i=>
  rw[r1.2];unfold aBy at h2;dsimp only at h2;split at h2
  .rename_i xs hx;cases h2;obtain⟨us,hv,hr⟩:=G1.lstAt hx;exact .inl ⟨us,SqL.of hv,by rw[mD (Paired.len hr)]⟩
  .rename_i kvs hx;cases h2;obtain⟨_,o,g2,g3⟩:=G1.cs i _ hx (by intro z;cases z);cases o with
   |dK us=>exact .inr (.inr ⟨us,g2,by rw[mD (Paired.len g3)]⟩)
   |_=>exact False.elim g3
  .cases h2
noncomputable def boolsOf:List PyData->Option (List Bool)
 |[]=>some []
 |.bool b::r=>(boolsOf r).bind fun bs=>some (b::bs)
 |_::_=>none
noncomputable def LM:FN:=fun xs M=>match xs with
 |[.d (.list ds)]=>(boolsOf ds).bind fun bs=>some (.d (.bool (bs.all id)),M)
 |_=>none
theorem EN{H:Hp}:∀{ds:List PyData}{bs:List Bool}{vs:List V},boolsOf ds=some bs->aL K H ds vs->vs=bs.map V.bl
 |[],bs,vs=>fun e h=>by cases e;exact h
 |.bool b::r,bs,vs=>fun e h=>by
  obtain⟨cs,h1,e⟩:=aH (show(boolsOf r).bind _=_ from e);cases e;obtain⟨v,us,rfl,h2,h3⟩:=h;rw[show v=V.bl b from h2,EN h1 h3];rfl
 |.none::_,_,_=>fun e _=>by cases e
 |.int _::_,_,_=>fun e _=>by cases e
 |.str _::_,_,_=>fun e _=>by cases e
 |.list _::_,_,_=>fun e _=>by cases e
 |.tuple _::_,_,_=>fun e _=>by cases e
 |.dict _::_,_,_=>fun e _=>by cases e
theorem SM(hc:X.calm=true):fV X (.builtin "all") (fun xs H Q=>∃(p:Addr)(bs:List Bool),xs=[.ref p]/\SqL X.K H p (bs.map V.bl)/\Q (.bl (bs.all id)) H):=by
 intro pins s σ H xs us Q I r h;obtain⟨p,bs,rfl,hp,q⟩:=h;obtain⟨u,rfl,ru⟩:=vals1 r;cases (show u=Value.ref p from ru);obtain⟨its,rv,pl,hz⟩:=I.list hp;have hits:=bE.bools rv;subst hits;refine call_all_walk (wpAny_pyIter_list pl.isList ?_);have hlt:p<s.heap.objs.size:=pl.lt;refine⟨_,_,_,_,_,_,(fun i=>bs.getD i false),rfl,Walks.list (A:=X.A.in1) (I.ok.hd hc) s.heap.objs.size p (C7 hlt) (bs.map Value.bool).toArray,⟨⟨_,D1 _ rfl,rfl,rfl⟩,pl.isList.at fun o e=>A4 _ e⟩,IQ,fun h' tk hk=>?_⟩;have e1:((bs.map Value.bool).toArray).size=bs.length:=by simp
 rw[e1,all_range];refine⟨.bl _,H,I.kept (h':=h') (t':=tk) fun b o e=>?_,rfl,q⟩;exact hk b o (fun z=>by rw[D2]at z;exact absurd (B9 e) (by rw[z];exact F8 _)) (A4 _ e)
theorem aGt:PN K (fun xs H Q=>∃(p:Addr)(bs:List Bool),xs=[.ref p]/\SqL K H p (bs.map V.bl)/\Q (.bl (bs.all id)) H) LM:=by
 intro xs M z M' h W H vs Q G r k;unfold LM at h;split at h
 .rename_i ds;obtain⟨bs,h1,h⟩:=aH h;cases h;rcases r with _|⟨r1,_|_⟩;obtain⟨p,us,rfl,hq,hr⟩:=(show ∃a us,_=V.ref a/\SqL K W.F a us/\aL K W.F ds us from r1);have e:=EN h1 hr;subst e;exact⟨p,bs,rfl,G.fh.seq hq,k _ W H (.refl _) G rfl⟩
 .cases h
noncomputable def FO:F3:=fun x y z M=>match x,y with
 |.c i,.d (.int k)=>match M[i]? with
  |some (.lst xs)=>(ixN xs.length k).bind fun j=>some (M.set i (.lst (xs.set j z)))
  |_=>none
 |_,_=>none
theorem aEX:P3 K aDx FO:=by
 intro x y z M M' h W H v u w Q G rx ry rz k;unfold FO at h;split at h
 .rename_i i n;split at h
  .rename_i xs hx;obtain⟨j,h1,h⟩:=aH h;cases h;obtain⟨us,hv,hr⟩:=G.lstAt hx;refine⟨W.α i,us,n,j,rx.2,ry,hv,by rw[<- Paired.len hr];exact h1,?_⟩;exact k W _ (.refl _) (G.set hx (by intro q;cases q) (c':=.lst (xs.set j z)) (show cA K W _ _ from Paired.set (R:=cH K W) rz j hr))
  .cases h
 .cases h
end
section
variable{X:Cx}{K:Fg}
noncomputable def YL(K:Fg):R2:=fun x y H Q=>∃l b xs zs,x=.ref l/\y=.ref b/\SqL K H l xs/\SqL K H b zs/\xs.length+zs.length<=sizeLine/\∀p,H p=none->Q (.ref p) (upd H p (.lst (xs++zs)))
theorem op_catS:OpR X (binaryOp .Add) (YL X.K):=by
 intro pins s σ H x y v u Q I rx ry h;obtain⟨l,b,xs,zs,rfl,rfl,hH,hB,hz,q⟩:=h;cases rx;cases ry;obtain⟨its,r,⟨⟨cls,dd,data,sl⟩,n,ho,hc,hdd,hd⟩,_⟩:=I.list hH;obtain⟨its2,r2,⟨⟨cls2,dd2,data2,sl2⟩,n2,ho2,hc2,hdd2,hd2⟩,_⟩:=I.list hB;simp only at hc hd hc2 hd2;subst hc hd hc2 hd2;have e1:=r.length;have e2:=r2.length;refine concat_meets ⟨_,ho,rfl⟩ ⟨_,ho2,rfl⟩ noFill_list_add seq_list_add PySem.F.slot_list_add PySem.F.entry_list_add (PySem.F.args_list_add_2 _ _) (list_addW l b its.toArray its2.toArray n n2 dd dd2 sl sl2 (by rw[C5,C5];omega)) ⟨ho,ho2,?_⟩;have ea:its.toArray++its2.toArray=(its++its2).toArray:=by simp
 rw[ea];exact⟨.ref _,_,I.lnew (t':=s.toks) (r.append r2) (by rw[B4];omega),rfl,q _ I.fresh⟩
noncomputable def QW(M:Sto):CD->Option (List CD)
 |.d (.list ds)=>some (ds.map .d)
 |.c i=>match M[i]? with
  |some (.lst xs)=>some xs
  |_=>none
 |_=>none
theorem ED{x:CD}{xs:List CD}{v:V}(G:Good K W M H)(h:QW M x=some xs)(r:cH K W x v):∃p vs,v=.ref p/\SqL K H p vs/\cA K W xs vs:=by
 unfold QW at h;split at h
 .rename_i ds;cases h;obtain⟨p,us,rfl,hq,hr⟩:=(show ∃a us,_=V.ref a/\SqL K W.F a us/\aL K W.F ds us from r);exact⟨p,us,rfl,G.fh.seq hq,gU hr⟩
 .rename_i i;split at h
  .rename_i ys hy;cases h;obtain⟨us,hv,hr⟩:=G.lstAt hy;exact⟨_,us,r.2,SqL.of hv,hr⟩
  .cases h
 .cases h
noncomputable def aHx:F2:=fun x y M=>(QW M x).bind fun xs=>(QW M y).bind fun ys=>(mW (xs++ys)).bind fun ds=>if ds.length<=sizeLine then some (.d (.list ds),M)else none
theorem aAX:P2 K (YL K) aHx:=by
 intro x y M z M' h W H v u Q G rx ry k;obtain⟨xs,h1,h⟩:=aH h;obtain⟨ys,h2,h⟩:=aH h;obtain⟨ds,h3,h⟩:=aH h;by_cases hl:ds.length<=sizeLine
 .rw[A3 hl]at h;cases h;obtain⟨p,vs,rfl,hp,hr⟩:=ED G h1 rx;obtain⟨q,us,rfl,hq,hs⟩:=ED G h2 ry;have el:=JA h3;rw[B4]at el;refine⟨p,q,vs,us,rfl,rfl,hp,hq,by rw[<- Paired.len hr,<- Paired.len hs];omega,fun l hl=>?_⟩;obtain⟨e2,G2⟩:=G.lay (o:=.lst (vs++us)) hl;exact k _ _ _ e2 G2 ⟨l,_,rfl,SqL.of aY,aL.same e2.ff _ _ (fQ h3 (Paired.app hr hs))⟩
 .rw[A7 hl]at h;cases h
noncomputable def aGj:F2:=fun x y M=>match x,y with
 |.d (.tuple xs),.d (.tuple ys)=>if xs≠[]/\xs.length+ys.length<=sizeLine then some (.d (.tuple (xs++ys)),M)else none
 |_,_=>none
theorem aL.nil_iff{ds:List PyData}{vs:List V}(r:aL K H ds vs):vs=[]↔ds=[]:=by
 have:=r.length;constructor<;>intro h<;>subst h<;>simp at this
 .exact this
 .exact List.eq_nil_of_length_eq_zero this.symm
theorem aCe:P2 K (XD K) aGj:=by
 intro x y M z M' h W H v u Q G rx ry k;unfold aGj at h;split at h
 .rename_i xs ys;by_cases hc:xs≠[]/\xs.length+ys.length<=sizeLine
  .rw[A3 hc]at h;cases h;obtain⟨p,vs,rfl,hp,hr⟩:=(show ∃a us,v=V.ref a/\SqT K W.F a us/\aL K W.F xs us from rx);obtain⟨q,us,rfl,hq,hs⟩:=(show ∃a us,u=V.ref a/\SqT K W.F a us/\aL K W.F ys us from ry);refine⟨p,q,vs,us,rfl,rfl,G.fh.seqT hp,G.fh.seqT hq,fun z=>hc.1 (hr.nil_iff.mp z),by rw[<- hr.length,<- hs.length];exact hc.2,fun z=>?_,fun z l hl=>?_⟩
   .have:ys=[]:=hs.nil_iff.mp z;subst this;rw[C4]at k;exact k _ W H (.refl _) G ⟨p,vs,rfl,hp,hr⟩
   .obtain⟨e2,G2⟩:=G.lay (o:=.tup (vs++us)) hl;exact k _ _ _ e2 G2 ⟨l,_,rfl,SqT.of aY,aL.same e2.ff _ _ (aL.app hr hs)⟩
  .rw[A7 hc]at h;cases h
 .cases h
theorem P2.or{r r':R2}{h h':F2}(a:P2 K r h)(b:P2 K r' h'):P2 K (fun x y H Q=>r x y H Q\/r' x y H Q) (KH h h'):=by
 intro x y M z M' hh W H v u Q G rv ru k;unfold KH at hh;cases e:h x y M with
 |some q=>
  rw[e]at hh;cases hh;exact .inl (a _ _ _ _ _ e W H v u Q G rv ru k)
 |none=>
  rw[e]at hh;exact .inr (b _ _ _ _ _ hh W H v u Q G rv ru k)
noncomputable def MQ(K:Fg):R2:=fun x y H Q=>∃a b ys,x=.ref a/\y=.ref b/\SqT K H a []/\SqT K H b ys/\Q (.ref b) H
theorem op_catT0:OpR X (binaryOp .Add) (MQ X.K):=by
 intro pins s σ H x y v u Q I rx ry h;obtain⟨a,b,ys,rfl,rfl,ha,hb,q⟩:=h;cases rx;cases ry;obtain⟨its,r1,⟨⟨cls,dd,data,sl⟩,ho,hc,n,hd⟩,_⟩:=I.tuple ha;obtain⟨its2,r2,⟨⟨cls2,dd2,data2,sl2⟩,ho2,hc2,n2,hd2⟩,_⟩:=I.tuple hb;simp only at hc hd hc2 hd2;subst hc hd hc2 hd2;cases r1;exact concat_meets ⟨_,ho,rfl⟩ ⟨_,ho2,rfl⟩ noFill_tuple_add seq_tuple_add PySem.F.slot_tuple_add PySem.F.entry_tuple_add (PySem.F.args_tuple_add_2 _ _) (tuple_addW0 a b #[] its2.toArray n n2 dd dd2 sl sl2 rfl) ⟨ho,ho2,⟨.ref b,H,I,rfl,q⟩⟩
noncomputable def aAw:F2:=fun x y M=>match x,y with
 |.d (.tuple []),.d (.tuple ys)=>some (.d (.tuple ys),M)
 |_,_=>none
theorem aAL:P2 K (MQ K) aAw:=by
 intro x y M z M' h W H v u Q G rx ry k;unfold aAw at h;split at h
 .rename_i ys;cases h;obtain⟨p,vs,rfl,hp,hr⟩:=(show ∃a us,v=V.ref a/\SqT K W.F a us/\aL K W.F [] us from rx);obtain⟨q,us,rfl,hq,hs⟩:=(show ∃a us,u=V.ref a/\SqT K W.F a us/\aL K W.F ys us from ry);rw[show vs=[]from hr]at hp;exact⟨p,q,us,rfl,rfl,G.fh.seqT hp,G.fh.seqT hq,k _ W H (.refl _) G ⟨q,us,rfl,hq,hs⟩⟩
 .cases h
noncomputable def cC:F2:=KH aIj (KH aHx (KH aAw aGj))
noncomputable def aAU(K:Fg):R2:=fun x y H Q=>(rI0 fun i j=>.int (i+j)) x y H Q\/YL K x y H Q\/MQ K x y H Q\/XD K x y H Q
theorem aBj:OpR X (binaryOp .Add) (aAU X.K):=op_add.or (op_catS.or (op_catT0.or aCr))
theorem aAY:P2 K (aAU K) cC:=P2.or aDL (P2.or aAX (P2.or aAL aCe))
noncomputable def eqS(neg:Bool):F2:=fun x y M=>match x,y with
 |.d (.str a),.d (.str b)=>some (.d (.bool (if neg then !(a==b)else a==b)),M)
 |_,_=>none
noncomputable def eqX(neg:Bool):F2:=KH (eqS neg) (eqD neg)
noncomputable def aFj(K:Fg):R2:=fun x y H Q=>rEq x y H Q\/NT K false x y H Q
noncomputable def aGa(K:Fg):R2:=fun x y H Q=>rNe x y H Q\/NT K true x y H Q
theorem US{a b:Str}:decide (V.str a=V.str b)=(a==b):=by
 by_cases e:a=b
 .subst e;simp
 .have h:¬V.str a=V.str b:=fun q=>e (V.str.inj q);rw[C1 h,beq_eq_false_iff_ne.mpr e]
theorem aGW:P2 K rEq (eqS false):=by
 intro x y M z M' h W H v u Q G rx ry k;unfold eqS at h;split at h
 .rename_i a b;cases h;rw[show v=.str a from rx,show u=.str b from ry];refine⟨rfl,?_⟩;rw[US];exact k _ W H (.refl _) G rfl
 .cases h
theorem aFg:P2 K rNe (eqS true):=by
 intro x y M z M' h W H v u Q G rx ry k;unfold eqS at h;split at h
 .rename_i a b;cases h;rw[show v=.str a from rx,show u=.str b from ry];refine⟨rfl,?_⟩;rw[US];exact k _ W H (.refl _) G rfl
 .cases h
theorem YI:P2 K (aFj K) (eqX false):=P2.or aGW aDF
theorem aFw:P2 K (aGa K) (eqX true):=P2.or aFg aDF
theorem aFx(hu:X.A.units+64<cLine):OpR X (compareOp .Eq) (aFj X.K):=op_eq.or (YH hu)
theorem aFh(hu:X.A.units+64<cLine):OpR X (compareOp .NotEq) (aGa X.K):=op_ne.or (aGD hu)
theorem aEe:P2 K (rI0 fun i j=>.int (i-j)) sE:=aDL
theorem aEK:P2 K (rI JW fun i j=>.int (i*j)) sI:=aBN fun _ _ h=>mulOk_of h
theorem aBr:P2 K (rI aDB fun i j=>.int (i / j)) kR:=aBN fun i j h=>by
 unfold vL at h;rw[B3]at h;exact⟨D6 h.1,D6 (p:=j.natAbs<xO) h.2⟩
theorem aGl:P2 K (rI (fun _ j=>0<j) fun i j=>.int (i % j)) gN:=aBN fun i j h=>D6 h
theorem aGP:P2 K (rI aIr fun i j=>.int (i ^ j.toNat)) CB:=aBN fun i j h=>by
 unfold YC at h;rw[B3,B3]at h;exact⟨D6 h.1.1,D6 h.1.2,D6 h.2⟩
theorem aDQ:P2 K (rI0 fun i j=>.bl (decide (i<j))) ltI:=QV
theorem aHK:P2 K (rI0 fun i j=>.bl (decide (i<=j))) leI:=QV
theorem aIz:P2 K (rI0 fun i j=>.bl (decide (j<i))) gtI:=QV
theorem aIc:P2 K (rI0 fun i j=>.bl (decide (j<=i))) geI:=QV
noncomputable def yD:F1:=fun x M=>match x with
 |.d (.int i)=>some (.d (.int (-i)),M)
 |_=>none
theorem aGA:P1 K (rU fun i=>.int (-i)) yD:=by
 intro x M z M' h W H v Q G r k;unfold yD at h;split at h
 .rename_i i;cases h;exact⟨i,r,k _ W H (.refl _) G rfl⟩
 .cases h
end
section
variable{X:Cx}{K:Fg}
theorem aJq(h:X.K=K):fV X (.builtin "isinstance") (aEJ K):=by subst h;exact RH
theorem aHu(h:X.K=K):fV X (.builtin "isinstance") (WM K):=by subst h;exact LW
noncomputable def aHz(K:Fg):R2:=rIx K
theorem kIx(h:X.K=K):IxR X (aHz K):=by subst h;exact aFm
theorem aHi:P2 K (aHz K) ixF:=aID
noncomputable def aDw(K:Fg):List V->Hp->VK->Prop:=fun xs H Q=>∃p ys,xs=[.ref p]/\(SqL K H p ys\/SqT K H p ys)/\Q (.int ys.length) H
theorem aJh(h:X.K=K):fV X (.builtin "len") (aDw K):=by subst h;exact FJ
theorem aCH:PN K (aDw K) eF:=aGZ
noncomputable def VG(K:Fg):List V->Hp->VK->Prop:=fun xs H Q=>∃p ys,xs=[.ref p]/\(SqL K H p ys\/SqT K H p ys)/\∀l,H l=none->Q (.ref l) (upd H l (.lst ys))
theorem aHO(h:X.K=K):fV X (.type "list") (VG K):=by subst h;exact GS
noncomputable def QE(K:Fg):List V->Hp->VK->Prop:=fun xs H Q=>∃p ys,xs=[.ref p]/\((SqL K H p ys/\∀l,H l=none->Q (.ref l) (upd H l (.tup ys)))\/(SqT K H p ys/\Q (.ref p) H))
theorem aEP(h:X.K=K):fV X (.type "tuple") (QE K):=by subst h;exact CS
theorem RP:PN K (QE K) dN:=UZ
noncomputable def aDv(K:Fg):List V->Hp->VK->Prop:=fun xs H Q=>∃(p:Addr)(bs:List Bool),xs=[.ref p]/\SqL K H p (bs.map V.bl)/\Q (.bl (bs.all id)) H
theorem aJf(h:X.K=K)(hc:X.calm=true):fV X (.builtin "all") (aDv K):=by subst h;exact SM hc
theorem aBc:PN K (aDv K) LM:=aGt
theorem kEq(h:X.K=K)(hu:X.A.units+64<cLine):OpR X (compareOp .Eq) (aFj K):=by subst h;exact aFx hu
theorem kNe(h:X.K=K)(hu:X.A.units+64<cLine):OpR X (compareOp .NotEq) (aGa K):=by subst h;exact aFh hu
theorem kIn(h:X.K=K)(hu:X.A.in1.units+64<cLine):OpR X (compareOp .In) (aFb K false):=by subst h;exact aGK hu
theorem aJu(h:X.K=K):OpR X (binaryOp .Add) (aAU K):=by subst h;exact aBj
theorem QM{tg l:Expr}{tl:TE}(h:X.K=K)(hl:PE X l tl):PI X tg l (aCv K tl):=by subst h;exact aGF hl
theorem aCK{es:List Expr}{k:Nat}{t:TGs}{n:Nat}{pos:Pos}(hK:X.K=K)(hc:X.calm=true)(h:PGs X es t)
 (hn:(assignEach es X.env).length=n:=by rfl) (hst:(assignEach es X.env).findIdx? (·.1)=none:=by rfl):PG X (.Tuple es k pos) (aFs K n t):=by subst hK;exact aFZ hc h hn hst
noncomputable def aIU(K:Fg)(ta:TE):TT:=fun σ H Q=>ta σ H fun x H'=>∃k,aBJ K x H' k/\Q k H'
theorem aCD{a:Expr}{ta:TE}(hK:X.K=K)(ha:PE X a ta)(he:∀whole,isTrue a X.env whole=(do let v <- whole;standAt a.pos;holding [v] (truthy v))):PT X a (aIU K ta):=by subst hK;exact XO ha he
theorem aBZ{ta:TE}{f:EF}(a:SE K ta f):STt K (aIU K ta) (nA f):=aFI a
end
section
variable{es:List Expr}{env:Env}
theorem bN{a b}:starEach (.Name a b::es) env=(false,eval (.Name a b) env)::starEach es env:=rfl
theorem zP{a b c}:starEach (.Tuple a b c::es) env=(false,eval (.Tuple a b c) env)::starEach es env:=rfl
theorem DH{a b c d}:starEach (.Call a b c d::es) env=(false,eval (.Call a b c d) env)::starEach es env:=rfl
theorem vQ{pos:Pos}:(backTo pos (starEach [] env)).any (·.1)=false:=rfl
theorem nX{pos:Pos}{e:Expr}(hs:starEach (e::es) env=(false,eval e env)::starEach es env)(h:(backTo pos (starEach es env)).any (·.1)=false):(backTo pos (starEach (e::es) env)).any (·.1)=false:=by
 rw[hs];have e1:backTo pos ((false,eval e env)::starEach es env)=(false,(do let v <- eval e env;standAt pos;pure v:Sem Value))::backTo pos (starEach es env)\/(backTo pos ((false,eval e env)::starEach es env)).any (·.1)=(backTo pos (starEach es env)).any (·.1):=.inr (by unfold backTo;simp);rcases e1 with q|q
 .rw[q,S0,h];rfl
 .rw[q];exact h
end
section
variable{P:Program}{w:World}{K:Fg}{mg:Str->Option Value}
theorem Fun.okM{base:Heap}{x:Str}{st:Stmt}{N ps:List Str}{k:Nat}{b:SF}{f:Addr}{fd:FuncData}(F:Fun K x x st f fd)(S:aX N ps (aI st))
 (hbody:∀(f:Addr)(cdv:Value)(A:Around)(outer:List Env)(s:Shared)(H:Hp)(E:XK),eE k (A.deeper (envOfC x (aI st) s.heap.objs.size f cdv))->
  ∃t,PSs (oO CX0 P w K mg base N x (aI st) f cdv A outer s H E).nox (dB st) t/\SS K t b):oK P w K mg base CX0 (k+1) f fd ps (spM K (fnF ps.length N.length b)):=by
 have len:∀vs H Q E,spM K (fnF ps.length N.length b) vs H Q E->vs.length=ps.length:=fun vs H Q E h=>by
  obtain⟨xs,M,W,y,M',G,R,hf,_⟩:=h;by_cases hl:xs.length=ps.length
  .rw[<- Paired.len R];exact hl
  .unfold fnF at hf;rw[A7 hl]at hf;cases hf
 refine F.ok S len fun cdv A outer s H vs Q E hr h=>?_;obtain⟨t,hP,hS⟩:=hbody f cdv A outer s H E hr;refine⟨t,hP,?_⟩;obtain⟨xs,M,W,y,M',G,R,hf,k⟩:=h;by_cases hl:xs.length=ps.length
 .unfold fnF at hf;rw[A3 hl]at hf;obtain⟨⟨o,M1⟩,h1,hf⟩:=aH hf
  have hR:dC K W (xs.map some++List.replicate (N.length-xs.length) none) (start N vs):=by
   unfold start;rw[<- Paired.len R];exact Paired.app (cA.some R) (vN _)
  refine hS _ _ _ _ h1 W H _ _ G hR fun W1 H1 e1 G1=>?_;cases o with
  |rt x=>cases hf;exact fun v r=>k v W1 H1 e1 G1 r
  |nx γ=>cases hf;exact fun σ r=>k .non W1 H1 e1 G1 rfl
  |bk γ=>cases hf
  |ct γ=>cases hf
 .unfold fnF at hf;rw[A7 hl]at hf;cases hf
theorem Def.okL{x p:Str}{st:Stmt}{N:List Str}{k:Nat}{b:SF}{F:FN}(D:Def K mg x st)(S:aX N [p] (aI st))(hF:F=fnF 1 N.length b)
 (hb:∀(kV doc pm:Value)(an:Option Addr)(cdv ct:Value)(us:List Value),us.length=[p].length->bindArgs (PySem.W.fnOf x x (gW st) (dB st) (aI st) .none kV doc pm an cdv ct) ⟨us,[]⟩=pure ([p].zip us))
 (hbody:∀(base:Heap)(f:Addr)(cdv:Value)(A:Around)(outer:List Env)(s:Shared)(H:Hp)(E:XK),eE k (A.deeper (envOfC x (aI st) s.heap.objs.size f cdv))->
  ∃t,PSs (oO CX0 P w K mg base N x (aI st) f cdv A outer s H E).nox (dB st) t/\SS K t b):
 ∃f fd,mg x=some (.ref f)/\(∀(s:Shared)(u:Value),BindsTo s fd ⟨[u],[]⟩ [(p,u)])/\∀base,oK P w K mg base CX0 (k+1) f fd [p] (spM K F):=by
 subst hF;obtain⟨f,fd,Fu,m⟩:=D.ex;refine⟨f,fd,m,fun s u=>?_,fun base=>Fu.okM S (hbody base)⟩;obtain⟨oc,od,kV,doc,pm,an,cdv,ct,osl,rfl,lk,hcd⟩:=Fu.ex;exact .of_eq (hb kV doc pm an cdv ct [u] rfl)
theorem KU{H:Hp}:∀ns:List Int,aL K H (ns.map .int) (ns.map V.int)
 |[]=>rfl
 |n::ns=>⟨.int n,ns.map V.int,rfl,rfl,KU ns⟩
theorem aHg{F:FN}(hF:∀ns:List Int,ns.length<=63->∃M',F [.d (.list (ns.map .int))] []=some (.d (.bool true),M')){a:Addr}{ns:List Int}(hl:ns.length<=63)(hS:SqL K H a (ns.map V.int))(E:XK):
 spM K F [.ref a] H (fun v _=>v=.bl true) E:=by
 obtain⟨M',h⟩:=hF ns hl;refine⟨[.d (.list (ns.map .int))],[],⟨H,fun _=>0,0⟩,_,M',⟨jQ.refl H,rfl,fun i c h=>by simp at h,fun i j c c' h=>by simp at h⟩,.cons (show ∃a' vs,V.ref a=.ref a'/\SqL K H a' vs/\aL K H (ns.map .int) vs from⟨a,ns.map V.int,rfl,hS,KU ns⟩) .nil,h,fun v W' H' _ _ r=>r⟩
theorem law_walk{l:PySem.W.OpenLaw}{q:Program}{loose:List Str}{XP:(Str->Option Value)->Heap->Prop}{YP:World->Heap->Prop}{d:DefRec}{K:Params->Fg}{F:FN}{k:Nat}{p:Str}(hq:PyProof.Rows.importsNone q=true)(hn:l.most=some 63)(hdf:d.params.defaults=[])(hr:eE k callerA)
 (hY:∀(w:World)(h:Heap),YP w h->(K w.params).In h)
 (hT:∀(w:World)(mg:Str->Option Value)(h:Heap),(K w.params).In h->h.Ns mainGlobals mg->∃f fd,mg d.name=some (.ref f)/\(∀(s:Shared)(u:Value),BindsTo s fd ⟨[u],[]⟩ [(p,u)])/\∀base,oK l.prog w (K w.params) mg base CX0 k f fd [p] (spM (K w.params) F))
 (hF:∀ns:List Int,ns.length<=63->∃M',F [.d (.list (ns.map .int))] []=some (.d (.bool true),M')):
 PySem.W.WalkO q loose XP YP l.row.toRowW d [] (fun f vs=>PySem.call f vs):=
 L2.walk_of hq (n:=63) (k:=k) (x:=p) (CX:=fun _=>CX0) (sp:=fun w=>spM (K w.params) F) hn (by decide) hdf hr hY
  (fun w mg fa h KX G hmg=>by
   obtain⟨f,fd,m,hb,hf⟩:=hT w mg h KX G;have e:(some (Value.ref f))=some (.ref fa):=m.symm.trans hmg;cases e;exact⟨fd,hb,fun base _ _=>hf base⟩)
  (fun w H a ns hl _ hS=>aHg hF hl hS _) fun _ _ _ _ _ z=>z
end
noncomputable def aAF(e:Expr)(es:List Expr):Prop:=∀env:Env,starEach (e::es) env=(false,eval e env)::starEach es env
noncomputable def JO:List Expr->Prop
 |[]=>True
 |e::es=>aAF e es/\JO es
theorem JO.plain:∀{es:List Expr},JO es->∀(env:Env)(pos:Pos),(backTo pos (starEach es env)).any (·.1)=false
 |[]=>fun _ _ _=>rfl
 |_::_=>fun h env pos=>nX (h.1 env) (h.2.plain env pos)
section
variable{ι:Type}
structure ME(K:Fg)(X:ι->Cx)(e:Expr)(f:EF):Prop where
 ex:∃t,(∀i,PE (X i) e t)/\SE K t f
structure MT(K:Fg)(X:ι->Cx)(e:Expr)(f:TF):Prop where
 ex:∃t,(∀i,PT (X i) e t)/\STt K t f
structure MW(K:Fg)(X:ι->Cx)(e:Expr)(f:TF):Prop where
 ex:∃t,(∀i,PW (X i) e t)/\STt K t f
structure MA(K:Fg)(X:ι->Cx)(es:List Expr)(f:AF):Prop where
 ex:∃t,(∀i,PA (X i) es t)/\SA K t f
 st:JO es
structure MG(K:Fg)(X:ι->Cx)(e:Expr)(f:GF):Prop where
 ex:∃t,(∀i,PG (X i) e t)/\SG K t f
structure MGs(K:Fg)(X:ι->Cx)(es:List Expr)(f:GsF):Prop where
 ex:∃t,(∀i,PGs (X i) es t)/\SGs K t f
structure MI(K:Fg)(X:ι->Cx)(tg e:Expr)(f:AF):Prop where
 ex:∃t,(∀i,PI (X i) tg e t)/\SI K t f
structure MF(K:Fg)(X:ι->Cx)(es:List Expr)(f:TF):Prop where
 ex:∃t,(∀i,HV (X i) es t)/\STt K t f
structure MS(K:Fg)(X:ι->Cx)(st:Stmt)(f:SF):Prop where
 ex:∃t,(∀i,PS (X i) st t)/\SS K t f
structure ML(K:Fg)(X:ι->Cx)(st:List Stmt)(f:SF):Prop where
 ex:∃t,(∀i,PSs (X i) st t)/\SS K t f
structure Q2(K:Fg)(X:ι->Cx)(o:Value->Value->Sem Value)(h:F2):Prop where
 ex:∃r,(∀i,OpR (X i) o r)/\P2 K r h
structure Q1(K:Fg)(X:ι->Cx)(o:Value->Sem Value)(h:F1):Prop where
 ex:∃r,(∀i,UnR (X i) o r)/\P1 K r h
structure QN(K:Fg)(X:ι->Cx)(f:Value)(h:FN):Prop where
 ex:∃r,(∀i,fV (X i) f r)/\PN K r h
structure QI(K:Fg)(X:ι->Cx)(h:F2):Prop where
 ex:∃r,(∀i,IxR (X i) r)/\P2 K r h
structure QS(K:Fg)(X:ι->Cx)(h:F3):Prop where
 ex:∃r,(∀i,aFK (X i) r)/\P3 K r h
variable{K:Fg}{X:ι->Cx}{a b c e:Expr}{es:List Expr}{f g h:EF}{ft gt:TF}{fa:AF}{pos:Pos}
theorem aC(i:Nat){x:Str}(hN:∀j,(X j).N[i]?=some x:=by intro _;rfl)(hv:∀j,Vis (X j).env.scope x:=by intro _;first|exact Or.inl rfl|exact Or.inr (Or.inl rfl)|exact Or.inr (Or.inr rfl))(hd:(x==("__debug__":Str))=false:=by decide)(hcd:(x==("__classdict__":Str))=false:=by decide):
 ME K X (.Name x pos) (aD i):=⟨_,fun j=>aFc (hN j) (hv j) hd hcd,aFL⟩
theorem aE{i:Int}{j:Nat}:ME K X (.Constant (.int i) j pos) (fC (.int i)):=⟨_,fun _=>aEs,aAG⟩
theorem eC{i:Bool}{j:Nat}:ME K X (.Constant (.bool i) j pos) (fC (.bool i)):=⟨_,fun _=>aJd,aIu⟩
theorem NC{j:Nat}:ME K X (.Constant .none j pos) (fC .none):=⟨_,fun _=>aFN,aDY⟩
theorem NF{i:Str}{j:Nat}:ME K X (.Constant (.str i) j pos) (fC (.str i)):=⟨_,fun _=>aFk,aFr⟩
theorem aAR{x:Str}{n:Int}(hm:∀i,∃t:Tok,(X i).mg x=some (.int n t))(hg:∀i,Gl (X i) x:=by intro _;rfl)(hd:(x==("__debug__":Str))=false:=by decide):ME K X (.Name x pos) (fC (.int n)):=
 ⟨_,fun i=>OQ (v:=.int n) (hg i) (hm i).choose_spec ⟨_,rfl⟩ hd,aAG⟩
theorem aT{op:Operator}{k:F2}(q:Q2 K X (binaryOp op) k)(x:ME K X a f)(y:ME K X b g):ME K X (.BinOp a op b pos) (fOp k f g):=by
 obtain⟨r,q1,q2⟩:=q.ex;obtain⟨t,x1,x2⟩:=x.ex;obtain⟨u,y1,y2⟩:=y.ex;exact⟨_,fun i=>aHp (q1 i) (x1 i) (y1 i),OB q2 x2 y2⟩
theorem KJ{op:UnaryOp}{k:F1}(q:Q1 K X (unaryOp op) k)(x:ME K X a f):ME K X (.UnaryOp op a pos) (fUn k f):=by
 obtain⟨r,q1,q2⟩:=q.ex;obtain⟨t,x1,x2⟩:=x.ex;exact⟨_,fun i=>aHw (q1 i) (x1 i),aIb q2 x2⟩
theorem gO{rest:List Expr}(x:ME K X a f)(y:ME K X (.BoolOp .And (b::rest) pos) g):ME K X (.BoolOp .And (a::b::rest) pos) (lT f g):=by
 obtain⟨t,x1,x2⟩:=x.ex;obtain⟨u,y1,y2⟩:=y.ex;exact⟨_,fun i=>aHd (x1 i) (y1 i),aHf x2 y2⟩
theorem aIo{rest:List Expr}(x:ME K X a f)(y:ME K X (.BoolOp .Or (b::rest) pos) g):ME K X (.BoolOp .Or (a::b::rest) pos) (fOr f g):=by
 obtain⟨t,x1,x2⟩:=x.ex;obtain⟨u,y1,y2⟩:=y.ex;exact⟨_,fun i=>aIl (x1 i) (y1 i),aII x2 y2⟩
theorem iB{op:BoolOp}(x:ME K X a f):ME K X (.BoolOp op [a] pos) f:=by
 obtain⟨t,x1,x2⟩:=x.ex;exact⟨_,fun i=>aGe (x1 i),x2⟩
theorem GO(x:ME K X a f):ME K X (.UnaryOp .Not a pos) (wI f):=by
 obtain⟨t,x1,x2⟩:=x.ex;exact⟨_,fun i=>aFU (x1 i),aGm x2⟩
theorem jU{op:CmpOp}{k:F2}(q:Q2 K X (compareOp op) k)(x:ME K X a f)(y:ME K X b g)(hm:behindInMarks op b=false:=by rfl):ME K X (.Compare a [op] [b] pos) (fOp k f g):=by
 obtain⟨r,q1,q2⟩:=q.ex;obtain⟨t,x1,x2⟩:=x.ex;obtain⟨u,y1,y2⟩:=y.ex;exact⟨_,fun i=>aCc (q1 i) (x1 i) (y1 i) hm,OB q2 x2 y2⟩
theorem LA{op op':CmpOp}{k k':F2}(q:Q2 K X (compareOp op) k)(q':Q2 K X (compareOp op') k')(x:ME K X a f)(y:ME K X b g)(z:ME K X c h)(hm:lastMarks [op,op'] [b,c]=false:=by with_unfolding_all rfl):ME K X (.Compare a [op,op'] [b,c] pos) (tU k k' f g h):=by
 obtain⟨r,q1,q2⟩:=q.ex;obtain⟨r',q1',q2'⟩:=q'.ex;obtain⟨t,x1,x2⟩:=x.ex;obtain⟨u,y1,y2⟩:=y.ex;obtain⟨v,z1,z2⟩:=z.ex;exact⟨_,fun i=>VL (q1 i) (q1' i) (x1 i) (y1 i) (z1 i) hm,VR q2 q2' x2 y2 z2⟩
theorem aF:MA K X [] aG:=⟨⟨_,fun _=>zK,aGT⟩,trivial⟩
theorem aA(x:ME K X e f)(y:MA K X es fa)(hs:aAF e es:=by intro _;rfl):MA K X (e::es) (aB f fa):=by
 obtain⟨t,x1,x2⟩:=x.ex;obtain⟨u,y1,y2⟩:=y.ex;exact⟨⟨_,fun i=>kD (x1 i) (y1 i) (hs _),aBs x2 y2⟩,hs,y.st⟩
theorem aP{k:Nat}(x:MA K X es fa):ME K X (.Tuple es k pos) (bL fa):=by
 obtain⟨t,x1,x2⟩:=x.ex;exact⟨_,fun i=>UT (x1 i),aGV x2⟩
theorem eW(x:MA K X es fa):ME K X (.List es pos) (fP fa):=by
 obtain⟨t,x1,x2⟩:=x.ex;exact⟨_,fun i=>UP (x1 i),aGf x2⟩
theorem oU(x:MA K X es fa):ME K X (.List es pos) (kK fa):=by
 obtain⟨t,x1,x2⟩:=x.ex;exact⟨_,fun i=>UP (x1 i),aGI x2⟩
theorem bD{k:F2}(q:QI K X k)(x:ME K X a f)(y:ME K X b g)(hs:OI b:=by intro _ _;rfl):ME K X (.Subscript a b pos) (fOp k f g):=by
 obtain⟨r,q1,q2⟩:=q.ex;obtain⟨t,x1,x2⟩:=x.ex;obtain⟨u,y1,y2⟩:=y.ex;exact⟨_,fun i=>aIA (q1 i) (x1 i) (y1 i) hs,OB q2 x2 y2⟩
theorem aR{k:Nat}{x:Str}{ps:List Str}{F:FN}{p:Pos}{q:Bool}(C:∀i,Callee (X i).prog (X i).w (X i).K (X i).mg (X i).base k x ps (spM K F) q)(hr:∀i,eE k (X i).A q)(y:MA K X (e::es) fa)(hg:∀i,Gl (X i) x:=by intro _;rfl)(hd:(x==("__debug__":Str))=false:=by decide):
 ME K X (.Call (.Name x p) (e::es) [] pos) (aK F fa):=by
 obtain⟨u,y1,y2⟩:=y.ex;exact⟨_,fun i=>aHj (C i) (hr i) (y1 i) (hg i) hd (y.st.1 _) (y.st.2.plain _ _),aBk y2⟩
theorem cN{x:Str}{id:String}{F:FN}{p:Pos}(q:QN K X (.builtin id) F)(hm:∀i,(X i).mg x=none)(hv:bootBuiltins x=some (.builtin id))(y:MA K X (e::es) fa)(hg:∀i,Gl (X i) x:=by intro _;rfl)(hn:x≠"__name__":=by decide)(hd:(x==("__debug__":Str))=false:=by decide):
 ME K X (.Call (.Name x p) (e::es) [] pos) (aK F fa):=by
 obtain⟨r,q1,q2⟩:=q.ex;obtain⟨u,y1,y2⟩:=y.ex;exact⟨_,fun i=>uK (q1 i) (hg i) (hm i) hv (y1 i) hn hd (y.st.1 _) (y.st.2.plain _ _),aDy q2 y2⟩
theorem dY{x:Str}{id:String}{F:FN}{p:Pos}(q:QN K X (.type id) F)(hm:∀i,(X i).mg x=none)(hv:bootBuiltins x=some (.type id))(y:MA K X (e::es) fa)(hg:∀i,Gl (X i) x:=by intro _;rfl)(hn:x≠"__name__":=by decide)(hd:(x==("__debug__":Str))=false:=by decide):
 ME K X (.Call (.Name x p) (e::es) [] pos) (aK F fa):=by
 obtain⟨r,q1,q2⟩:=q.ex;obtain⟨u,y1,y2⟩:=y.ex;exact⟨_,fun i=>SZ (q1 i) (hg i) (hm i) hv (y1 i) hn hd (y.st.1 _) (y.st.2.plain _ _),aDy q2 y2⟩
theorem oZ{T:String}{y:Str}{p p':Pos}(hK:∀i,(X i).K=K)(hT:T∈asked)(x:ME K X a f)(hs:aAF a [.Name y p'])(hm:∀i,(X i).mg "isinstance"=none)(hmy:∀i,(X i).mg y=none)(hb:bootBuiltins y=some (.type T))(hg:∀i,Gl (X i) "isinstance":=by intro _;rfl)(hgy:∀i,Gl (X i) y:=by intro _;rfl)
 (hn:y≠"__name__":=by decide) (hd:(y==("__debug__":Str))=false:=by decide):ME K X (.Call (.Name "isinstance" p) [a,.Name y p'] [] pos) (kM T f):=by
 obtain⟨t,x1,x2⟩:=x.ex;refine⟨_,fun i=>uK (aJq (hK i)) (hg i) (hm i) boot_isinstance (kD (x1 i) (kD (yI (v:=.ty T) (hgy i) (hmy i) hb rfl hn hd) zK bN) (hs _)) (by decide) (by decide) (hs _) (nX bN vQ),aDV hT x2⟩
theorem OG{T U:String}{y z:Str}{p p' p'' p3:Pos}{k:Nat}(hK:∀i,(X i).K=K)(hT:T∈asked)(hU:U∈asked)(x:ME K X a f)(hs:aAF a [.Tuple [.Name y p',.Name z p''] k p3])(hm:∀i,(X i).mg "isinstance"=none)(hmy:∀i,(X i).mg y=none)(hmz:∀i,(X i).mg z=none)
 (hb:bootBuiltins y=some (.type T)) (hbz:bootBuiltins z=some (.type U)) (hg:∀i,Gl (X i) "isinstance":=by intro _;rfl) (hgy:∀i,Gl (X i) y:=by intro _;rfl) (hgz:∀i,Gl (X i) z:=by intro _;rfl)
 (hn:y≠"__name__":=by decide) (hd:(y==("__debug__":Str))=false:=by decide) (hn':z≠"__name__":=by decide) (hd':(z==("__debug__":Str))=false:=by decide):ME K X (.Call (.Name "isinstance" p) [a,.Tuple [.Name y p',.Name z p''] k p3] [] pos) (IT T U f):=by
 obtain⟨t,x1,x2⟩:=x.ex;refine⟨_,fun i=>uK (aHu (hK i)) (hg i) (hm i) boot_isinstance (kD (x1 i) (kD (UT (kD (yI (v:=.ty T) (hgy i) (hmy i) hb rfl hn hd) (kD (yI (v:=.ty U) (hgz i) (hmz i) hbz rfl hn' hd') zK bN) bN)) zK zP) (hs _)) (by decide) (by decide) (hs _) (nX zP vQ),aBK hT hU x2⟩
theorem dZ(x:MT K X a ft):MT K X (.UnaryOp .Not a pos) (fO ft):=by
 obtain⟨t,x1,x2⟩:=x.ex;exact⟨_,fun i=>aFV (x1 i),aEM x2⟩
theorem tX{rest:List Expr}(x:MT K X a ft)(y:MW K X (.BoolOp .And (b::rest) pos) gt):MW K X (.BoolOp .And (a::b::rest) pos) (kZ ft gt):=by
 obtain⟨t,x1,x2⟩:=x.ex;obtain⟨u,y1,y2⟩:=y.ex;exact⟨_,fun i=>aGX (x1 i) (y1 i),aHh x2 y2⟩
theorem uW(x:MT K X a ft):MW K X (.BoolOp .And [a] pos) ft:=by
 obtain⟨t,x1,x2⟩:=x.ex;exact⟨_,fun i=>aCl (x1 i),x2⟩
theorem iC{rest:List Expr}(x:MT K X a ft)(y:MW K X (.BoolOp .Or (b::rest) pos) gt):MW K X (.BoolOp .Or (a::b::rest) pos) (gOr ft gt):=by
 obtain⟨t,x1,x2⟩:=x.ex;obtain⟨u,y1,y2⟩:=y.ex;exact⟨_,fun i=>aHm (x1 i) (y1 i),aHB x2 y2⟩
theorem iH(x:MT K X a ft):MW K X (.BoolOp .Or [a] pos) ft:=by
 obtain⟨t,x1,x2⟩:=x.ex;exact⟨_,fun i=>aGC (x1 i),x2⟩
theorem oX(x:MW K X a ft):MT K X a ft:=by
 obtain⟨t,x1,x2⟩:=x.ex;exact⟨_,fun i=>(x1 i).pt,x2⟩
theorem bS{op:CmpOp}{k:F2}(q:Q2 K X (compareOp op) k)(x:ME K X a f)(y:ME K X b g)(hm:behindInMarks op b=false:=by rfl):MT K X (.Compare a [op] [b] pos) (gB (fOp k f g)):=by
 obtain⟨r,q1,q2⟩:=q.ex;obtain⟨t,x1,x2⟩:=x.ex;obtain⟨u,y1,y2⟩:=y.ex;exact⟨_,fun i=>aBe (q1 i) (x1 i) (y1 i) hm,aBq (OB q2 x2 y2)⟩
theorem dR(x:ME K X a f)(he:∀(env:Env)(whole:Sem Value),isTrue a env whole=(do let v <- whole;standAt a.pos;holding [v] (truthy v)):=by intro _ _;rfl):MT K X a (gB f):=by
 obtain⟨t,x1,x2⟩:=x.ex;exact⟨_,fun i=>aGp (x1 i) (he _),aBa x2⟩
theorem FS(hK:∀i,(X i).K=K)(x:ME K X a f)(he:∀(env:Env)(whole:Sem Value),isTrue a env whole=(do let v <- whole;standAt a.pos;holding [v] (truthy v)):=by intro _ _;rfl):MT K X a (nA f):=by
 obtain⟨t,x1,x2⟩:=x.ex;exact⟨_,fun i=>aCD (hK i) (x1 i) (he _),aBZ x2⟩
theorem iU{tg:Expr}{p:Pos}(hm:∀i,(X i).mg "range"=none)(x:MA K X [a] fa)(hg:∀i,Gl (X i) "range":=by intro _;rfl):MI K X tg (.Call (.Name "range" p) [a] [] pos) (cZ fa):=by
 obtain⟨t,x1,x2⟩:=x.ex;exact⟨_,fun i=>QZ (hg i) (hm i) (x1 i) (x.st.1 _),aBP x2⟩
theorem aBV{tg:Expr}{p:Pos}(hm:∀i,(X i).mg "range"=none)(x:MA K X [a,b] fa)(hg:∀i,Gl (X i) "range":=by intro _;rfl):MI K X tg (.Call (.Name "range" p) [a,b] [] pos) (EY fa):=by
 obtain⟨t,x1,x2⟩:=x.ex;exact⟨_,fun i=>RC (hg i) (hm i) (x1 i) (by rw[x.st.1,x.st.2.1];rfl) (by rw[x.st.2.1];rfl),aCy x2⟩
theorem rH{tg:Expr}(hK:∀i,(X i).K=K)(x:ME K X a f):MI K X tg a (fU f):=by
 obtain⟨t,x1,x2⟩:=x.ex;exact⟨_,fun i=>QM (hK i) (x1 i),aEj x2⟩
theorem bH(i:Nat){x:Str}(hN:∀j,(X j).N.Nodup)(hi:∀j,(X j).N[i]?=some x:=by intro _;rfl)(hx:∀j,Loc (X j).env.scope x:=by intro _;first|exact Or.inl rfl|exact Or.inr rfl)(hf:∀j,(X j).fn x=true\/(X j).env.scope.names.lookup x=some .local:=by intro _;first|exact .inl rfl|exact .inr rfl):
 MG K X (.Name x pos) (hName i):=⟨_,fun j=>aCY (hN j) (hi j) (hx j) (hf j),yM⟩
theorem mB:MGs K X [] lR:=⟨_,fun _=>aCf,aBU⟩
theorem cK{gf:GF}{gs:GsF}(x:MG K X e gf)(y:MGs K X es gs)(hs:∀env:Env,(assignEach (e::es) env).map (·.2)=assign e env::(assignEach es env).map (·.2):=by intro _;rfl):MGs K X (e::es) (bT gf gs):=by
 obtain⟨t,x1,x2⟩:=x.ex;obtain⟨u,y1,y2⟩:=y.ex;exact⟨_,fun i=>aAj (x1 i) (y1 i) (hs _),ZL x2 y2⟩
theorem qQ{gs:GsF}{k n:Nat}(hK:∀i,(X i).K=K)(hc:∀i,(X i).calm=true)(x:MGs K X es gs)(hn:∀env:Env,(assignEach es env).length=n:=by intro _;rfl)(hst:∀env:Env,(assignEach es env).findIdx? (·.1)=none:=by intro _;rfl):MG K X (.Tuple es k pos) (lB n gs):=by
 obtain⟨t,x1,x2⟩:=x.ex;exact⟨_,fun i=>aCK (hK i) (hc i) (x1 i) (hn _) (hst _),aFD x2⟩
theorem aAP{s:F3}(q:QS K X s)(x:ME K X a f)(y:ME K X b g) (hs:∀(env:Env)(v:Value),assign (.Subscript a b pos) env v=(do
 let ov <- holding [v] (eval a env);let iv <- holding [v,ov] (eval b env)
 standAt pos
 holding [v,ov,iv] (setItem ov iv v)
 release [v,ov,iv] []):=by intro _ _;rfl):MG K X (.Subscript a b pos) (hSub f g s):=by
 obtain⟨r,q1,q2⟩:=q.ex;obtain⟨t,x1,x2⟩:=x.ex;obtain⟨u,y1,y2⟩:=y.ex;exact⟨_,fun i=>aEZ (x1 i) (y1 i) (q1 i) (hs _),aEr q2 x2 y2⟩
theorem qU:MF K X [] jH:=⟨_,fun _=>ZV,aGo⟩
theorem aFY(x:MT K X c ft):MF K X [c] ft:=by
 obtain⟨t,x1,x2⟩:=x.ex;exact⟨_,fun i=>ZN (x1 i),x2⟩
noncomputable abbrev LcI(ι:Type):Type:=ι×Addr×Shared×Hp×List Addr×List (Addr×Obj)
noncomputable def sV(X:ι->Cx)(N':List Str)(scope:Scope):LcI ι->Cx:=fun j=>fK (X j.1) N' scope j.2.1 j.2.2.1 j.2.2.2.1 j.2.2.2.2.1 j.2.2.2.2.2
variable{N':List Str}{cap:List (Option Nat)}{scope:Scope}{tg iter elt:Expr}{ifs:List Expr}{gf:GF}
theorem AW(hc:∀i,(X i).calm=true)(S:∀i,pW (X i) N' cap scope)(x:MI K X tg iter fa)(y:MG K (sV X N' scope) tg gf)(z:MF K (sV X N' scope) ifs ft)(w:ME K (sV X N' scope) elt f)(hs:∀(env:Env)(x:Value),foldedSetIterable iter env x=pure x:=by intro _ _;rfl):
 ME K X (.ListComp elt [⟨tg,iter,ifs,0⟩] scope pos) (fLc cap fa gf ft f):=by
 obtain⟨t,x1,x2⟩:=x.ex;obtain⟨u,y1,y2⟩:=y.ex;obtain⟨v,z1,z2⟩:=z.ex;obtain⟨o,w1,w2⟩:=w.ex;exact⟨_,fun i=>aIw (hc i) (S i) (x1 i) (fun C s H fp pn=>y1 (i,C,s,H,fp,pn)) (fun C s H fp pn=>z1 (i,C,s,H,fp,pn)) (fun C s H fp pn=>w1 (i,C,s,H,fp,pn)) (hs _),aIh x2 y2 z2 w2⟩
theorem UK(i:Nat){x':Str}{pos' pos'':Pos}(hN:∀j,(X j).N.Nodup)(hc:∀i,(X i).calm=true)(S:∀i,pW (X i) N' cap scope)(x:MI K X tg iter fa)(y:MG K (sV X N' scope) tg gf)(z:MF K (sV X N' scope) ifs ft)(w:ME K (sV X N' scope) elt f)
 (hix:∀j,(X j).N[i]?=some x':=by intro _;rfl) (hsw:∀j,swapsWith (.ListComp elt [⟨tg,iter,ifs,0⟩] scope pos) (some (.Name x' pos')) pos''.line (X j).env=pure true:=by intro _;rfl) (hx:∀j,(X j).env.scope.names.lookup x'=some .local:=by intro _;rfl) (hs:∀(env:Env)(x:Value),foldedSetIterable iter env x=pure x:=by intro _ _;rfl):
 MS K X (.Assign [.Name x' pos'] (.ListComp elt [⟨tg,iter,ifs,0⟩] scope pos) pos'') (aZ (aAy cap fa gf ft f) (hName i)):=by
 obtain⟨t,x1,x2⟩:=x.ex;obtain⟨u,y1,y2⟩:=y.ex;obtain⟨v,z1,z2⟩:=z.ex;obtain⟨o,w1,w2⟩:=w.ex;exact⟨_,fun j=>WS (hN j) (hix j) (hc j) (S j) (x1 j) (fun C s H fp pn=>y1 (j,C,s,H,fp,pn)) (fun C s H fp pn=>z1 (j,C,s,H,fp,pn)) (fun C s H fp pn=>w1 (j,C,s,H,fp,pn)) (hsw j) (hx j) (hs _),HB (aHa x2 y2 z2 w2) yM⟩
variable{st:Stmt}{sts:List Stmt}{sf sg:SF}
theorem bR:ML K X [] bC:=⟨_,fun _=>aBX,aAW⟩
theorem aM(x:MS K X st sf):ML K X [st] sf:=by
 obtain⟨t,x1,x2⟩:=x.ex;exact⟨_,fun i=>PJ (x1 i),x2⟩
theorem aJ(x:MS K X st sf)(y:ML K X sts sg):ML K X (st::sts) (aO sf sg):=by
 obtain⟨t,x1,x2⟩:=x.ex;obtain⟨u,y1,y2⟩:=y.ex;exact⟨_,fun i=>KI (x1 i) (y1 i),aGB x2 y2⟩
theorem aW(x:ME K X e f):MS K X (.Return (some e) pos) (bK f):=by
 obtain⟨t,x1,x2⟩:=x.ex;exact⟨_,fun i=>aFq (x1 i),aGw x2⟩
theorem jA(x:ME K X e f)(hs:∀i,swapsWith e none pos.line (X i).env=pure false:=by intro _;rfl):MS K X (.Expr e pos) (lL f):=by
 obtain⟨t,x1,x2⟩:=x.ex;exact⟨_,fun i=>PK (x1 i) (hs i),aCT x2⟩
theorem cX{sts':List Stmt}(x:MT K X c ft)(y:ML K X sts sf)(z:ML K X sts' sg):MS K X (.If c sts sts' pos) (sIf ft sf sg):=by
 obtain⟨t,x1,x2⟩:=x.ex;obtain⟨u,y1,y2⟩:=y.ex;obtain⟨v,z1,z2⟩:=z.ex;exact⟨_,fun i=>aDo (x1 i) (y1 i) (z1 i),aHn x2 y2 z2⟩
theorem uQ(hp:∀i,PassesOwn (model (X i).prog (X i).w) (X i).A (X i).env (X i).xe)(x:MT K X c ft)(y:ML K X sts sf):MS K X (.While c sts [] pos) (nV ft sf):=by
 obtain⟨t,x1,x2⟩:=x.ex;obtain⟨u,y1,y2⟩:=y.ex;exact⟨_,fun i=>aAT (hp i) (x1 i) (y1 i),YQ x2 y2⟩
theorem jR(hp:∀i,PassesOwn (model (X i).prog (X i).w) (X i).A (X i).env (X i).xe)(hc:∀i,(X i).calm=true)(x:MI K X tg iter fa)(y:MG K X tg gf)(z:ML K X sts sf)(hs:∀(env:Env)(x:Value),foldedSetIterable iter env x=pure x:=by intro _ _;rfl):MS K X (.For tg iter sts [] pos) (kW fa gf sf):=by
 obtain⟨t,x1,x2⟩:=x.ex;obtain⟨u,y1,y2⟩:=y.ex;obtain⟨v,z1,z2⟩:=z.ex;exact⟨_,fun i=>UO (hp i) (hc i) (x1 i) (y1 i) (z1 i) (hs _),aEo x2 y2 z2⟩
theorem bB(i:Nat){x':Str}{pos':Pos}(hN:∀j,(X j).N.Nodup)(x:ME K X e f)(hi:∀j,(X j).N[i]?=some x':=by intro _;rfl)(hx:∀j,Loc (X j).env.scope x':=by intro _;first|exact Or.inl rfl|exact Or.inr rfl)(hs:∀j,swapsWith e (some (.Name x' pos')) pos.line (X j).env=pure false:=by intro _;rfl)
 (hf:∀j,(X j).fn x'=true\/(X j).env.scope.names.lookup x'=some .local:=by intro _;first|exact .inl rfl|exact .inr rfl):MS K X (.Assign [.Name x' pos'] e pos) (aZ f (hName i)):=by
 obtain⟨t,x1,x2⟩:=x.ex;exact⟨_,fun j=>aEL (hN j) (hi j) (hx j) (x1 j) (hs j) (hf j),HB x2 yM⟩
theorem NV(i j:Nat){x' y':Str}{px py pt pt2:Pos}{kt k2:Nat}(hc:∀j,(X j).calm=true)(hN:∀j,(X j).N.Nodup)(x:MA K X [a,b] fa)(hij:i≠j:=by decide)(hi:∀k,(X k).N[i]?=some x':=by intro _;rfl)(hj:∀k,(X k).N[j]?=some y':=by intro _;rfl)(hx:∀k,(X k).env.scope.names.lookup x'=some .local:=by intro _;rfl)(hy:∀k,(X k).env.scope.names.lookup y'=some .local:=by intro _;rfl)
 (h1:∀k,swappedStores [.Tuple [.Name x' px,.Name y' py] kt pt] (.Tuple [a,b] k2 pt2) (X k).env=pure (some [x',y']):=by intro _;rfl) (h2:∀k,swapsWithSole [.Tuple [.Name x' px,.Name y' py] kt pt] (.Tuple [a,b] k2 pt2) pos.line (X k).env=pure false:=by intro _;rfl):
 MS K X (.Assign [.Tuple [.Name x' px,.Name y' py] kt pt] (.Tuple [a,b] k2 pt2) pos) (CK i j fa):=by
 obtain⟨t,x1,x2⟩:=x.ex;exact⟨_,fun k=>aFn (hc k) (hN k) (hi k) (hj k) hij (hx k) (hy k) (x1 k) (h1 k) (h2 k),aGg x2⟩
theorem yY(x:ME K X e f)(y:MG K X tg gf)(h1:∀k,swapsWithSole [tg] e pos.line (X k).env=pure false:=by intro _;rfl)(h2:∀k,swappedStores [tg] e (X k).env=pure none:=by intro _;rfl)(h3:∀env:Env,(assignEach [tg] env).map (·.2)=[assign tg env]:=by intro _;rfl):MS K X (.Assign [tg] e pos) (aZ f gf):=by
 obtain⟨t,x1,x2⟩:=x.ex;obtain⟨u,y1,y2⟩:=y.ex;exact⟨_,fun k=>aFy (x1 k) (y1 k) (h1 k) (h2 k) (h3 _),HB x2 y2⟩
theorem dM(hK:∀i,(X i).K=K:=by intro _;rfl):Q2 K X (binaryOp .Add) cC:=⟨_,fun i=>aJu (hK i),aAY⟩
theorem AA:Q2 K X (binaryOp .Sub) sE:=⟨_,fun _=>aEf,aEe⟩
theorem uS:Q2 K X (binaryOp .Mult) sI:=⟨_,fun _=>aCE,aEK⟩
theorem mQ:Q2 K X (binaryOp .FloorDiv) kR:=⟨_,fun _=>VX,aBr⟩
theorem hV:Q2 K X (binaryOp .Mod) gN:=⟨_,fun _=>aGq,aGl⟩
theorem KO:Q2 K X (binaryOp .Pow) CB:=⟨_,fun _=>aFl,aGP⟩
theorem LI:Q1 K X (unaryOp .USub) yD:=⟨_,fun _=>aEg,aGA⟩
theorem aIW:Q2 K X (compareOp .Lt) ltI:=⟨_,fun _=>op_lt,aDQ⟩
theorem aGx:Q2 K X (compareOp .LtE) leI:=⟨_,fun _=>aHF,aHK⟩
theorem aEB:Q2 K X (compareOp .Gt) gtI:=⟨_,fun _=>aHq,aIz⟩
theorem aGR:Q2 K X (compareOp .GtE) geI:=⟨_,fun _=>aHG,aIc⟩
theorem mL(hK:∀i,(X i).K=K)(hu:∀i,(X i).A.units+64<cLine):Q2 K X (compareOp .Eq) (eqX false):=⟨_,fun i=>kEq (hK i) (hu i),YI⟩
theorem qW(hK:∀i,(X i).K=K)(hu:∀i,(X i).A.units+64<cLine):Q2 K X (compareOp .NotEq) (eqX true):=⟨_,fun i=>kNe (hK i) (hu i),aFw⟩
theorem aJj(hK:∀i,(X i).K=K)(hu:∀i,(X i).A.in1.units+64<cLine):Q2 K X (compareOp .In) (inD false):=⟨_,fun i=>kIn (hK i) (hu i),aHI⟩
theorem cB(hK:∀i,(X i).K=K:=by intro _;rfl):QI K X ixF:=⟨_,fun i=>kIx (hK i),aHi⟩
theorem lY(hK:∀i,(X i).K=K:=by intro _;rfl):QN K X (.builtin "len") eF:=⟨_,fun i=>aJh (hK i),aCH⟩
theorem kJ(hK:∀i,(X i).K=K):QN K X (.type "tuple") dN:=⟨_,fun i=>aEP (hK i),RP⟩
theorem aDt(hK:∀i,(X i).K=K)(hc:∀i,(X i).calm=true):QN K X (.builtin "all") LM:=⟨_,fun i=>aJf (hK i) (hc i),aBc⟩
theorem aDN:QS K X FO:=⟨_,fun _=>set_list,aEX⟩
end
section
variable{P:Program}{w:World}{K:Fg}{mg:Str->Option Value}
theorem Def.okG{base:Heap}{x:Str}{st:Stmt}{N ps:List Str}{k:Nat}{b:SF}{q:Bool}(D:Def K mg x st)(S:aX N ps (aI st))
 (hb:∀(kV doc pm:Value)(an:Option Addr)(cdv ct:Value)(us:List Value),us.length=ps.length->bindArgs (PySem.W.fnOf x x (gW st) (dB st) (aI st) .none kV doc pm an cdv ct) ⟨us,[]⟩=pure (ps.zip us))
 (hbody:∀(f:Addr)(cdv:Value)(A:Around)(outer:List Env)(s:Shared)(H:Hp)(E:XK),eE k (A.deeper (envOfC x (aI st) s.heap.objs.size f cdv)) q->
  ML K (fun _:Unit=>(oO CX0 P w K mg base N x (aI st) f cdv A outer s H E q).nox) (dB st) b):Callee P w K mg base (k+1) x ps (spM K (fnF ps.length N.length b)) q:=
 D.okM S hb fun f cdv A outer s H E hr=>by
  obtain⟨t,h1,h2⟩:=(hbody f cdv A outer s H E hr).ex;exact⟨t,h1 (),h2⟩
theorem Def.okLG{x p:Str}{st:Stmt}{N:List Str}{k:Nat}{b:SF}{F:FN}(D:Def K mg x st)(S:aX N [p] (aI st))(hF:F=fnF 1 N.length b)
 (hb:∀(kV doc pm:Value)(an:Option Addr)(cdv ct:Value)(us:List Value),us.length=[p].length->bindArgs (PySem.W.fnOf x x (gW st) (dB st) (aI st) .none kV doc pm an cdv ct) ⟨us,[]⟩=pure ([p].zip us))
 (hbody:∀(base:Heap)(f:Addr)(cdv:Value)(A:Around)(outer:List Env)(s:Shared)(H:Hp)(E:XK),eE k (A.deeper (envOfC x (aI st) s.heap.objs.size f cdv))->
  ML K (fun _:Unit=>(oO CX0 P w K mg base N x (aI st) f cdv A outer s H E).nox) (dB st) b):
 ∃f fd,mg x=some (.ref f)/\(∀(s:Shared)(u:Value),BindsTo s fd ⟨[u],[]⟩ [(p,u)])/\∀base,oK P w K mg base CX0 (k+1) f fd [p] (spM K F):=
 D.okL S hF hb fun base f cdv A outer s H E hr=>by
  obtain⟨t,h1,h2⟩:=(hbody base f cdv A outer s H E hr).ex;exact⟨t,h1 (),h2⟩
end
end L2
namespace HT
open PySem PyProof.Rows PySem.Spec
section
variable{prog:Program}{w:World}{A:Around}{E:Value->Shared->Prop}{s:Shared}
theorem getItem_tuple_whole{t sl:Addr}{items:Array Value}{vl vu:Value}{lo hi:Option Int}{Q:Value->Shared->Prop}(ht:IsTup s.heap t items)(hs:s.heap.IsSliceOf sl vl vu .none)(pl:IsPart vl lo)(pu:IsPart vu hi)
 (hw:sIx items.size 0 lo=0/\sIx items.size items.size hi=items.size) (h:Q (.ref t) s):wpAny (model prog w) A (getItem (.ref t) (.ref sl)) Q E s:=by
 obtain⟨os,hos,hcs,hds⟩:=id hs;have hTs:s.TypeIs (.ref sl) "slice":=⟨os,hos,hcs⟩;unfold getItem
 try with_reducible refine J1 ?_
 first|refine A1 (B5 ?_)|skip
 refine A1 (wpAny_sequenceKey ht.typeIs (by decide) ?_)
 refine A1 (U2 (name:=Str.ofString "__getitem__") ht.typeIs J2
  (S5 J2 ht.typeIs entry_tuple_getitem ?_ (args_tuple_getitem _ _)))
 show wpAny _ _ (Builtin.Tuple.tupleItemsOf (.ref t) >>= _) _ _ s;refine A1 (tupleItemsOf_ ht ?_);refine A1 (wpAny_typeOf hTs ?_);rw[A3 (by decide)];refine A1 (nJ hs pl pu ?_)
 have hyes:(((sIx items.size 0 lo:Nat):Int)==0&&(1:Int)==1&&(sIx items.size items.size hi-sIx items.size 0 lo)==items.size)=true:=by
  rw[hw.1,hw.2];simp
 show wpAny _ _ (if (((sIx items.size 0 lo:Nat):Int)==0&&(1:Int)==1&&(sIx items.size items.size hi-sIx items.size 0 lo)==items.size)=true then _ else _) _ _ s;rw[A3 hyes];refine A1 (m:=Builtin.Tuple.tupleIsExact (.ref t)) ?_;unfold Builtin.Tuple.tupleIsExact;refine A1 (wpAny_typeOf ht.typeIs (B5 ?_));rw[A3 (by decide)];exact A1 (wpAny_rule (B5 ⟨_,rfl,B5 h⟩))
end
end HT
namespace L2
variable{W:Wd}{K:Fg}{H:Hp}{apos cpos pos:Pos}
open PySem PySem.Spec PyProof.Rows
noncomputable def aIm(K:Fg):V->Option Int->Option Int->Hp->VK->Prop:=fun x lo hi H Q=>∃a xs,x=.ref a/\SqT K H a xs/\(HT.sIx xs.length 0 lo=0/\HT.sIx xs.length xs.length hi=xs.length)/\Q (.ref a) H
theorem UU{X:Cx}:SlR X (aIm X.K):=by
 intro pins s σ H x v vl vu lo hi sl Q I rx hs pl pu h;obtain⟨a,xs,rfl,hx,hw,q⟩:=h;cases rx;obtain⟨its,r,ht,hz⟩:=I.tuple hx;have hlen:its.toArray.size=xs.length:=by rw[C5];exact r.length.symm
 refine⟨"tuple",_,PyProof.Rows.slot_tuple_getitem.lookup,ht.typeIs,?_⟩;exact HT.getItem_tuple_whole ht hs pl pu (by rw[hlen];exact hw) ⟨.ref a,H,I,rfl,q⟩
noncomputable def eD{α:Type}(xs:List α)(lo hi:Option Int):List α:=(xs.drop (HT.sIx xs.length 0 lo)).take (HT.sIx xs.length xs.length hi-HT.sIx xs.length 0 lo)
noncomputable abbrev OF:=Ga->Sto->Option (Option Int×Sto)
noncomputable def bV:OF:=fun _ M=>some (none,M)
noncomputable def asI:CD->Option Int
 |.d (.int i)=>some i
 |_=>none
noncomputable def dW(f:EF):OF:=fun γ M=>(f γ M).bind fun r=>(asI r.1).bind fun i=>some (some i,r.2)
noncomputable def slF(x:CD)(lo hi:Option Int)(M:Sto):Option (CD×Sto):=match x with
 |.d (.list ds)=>some (.d (.list (eD ds lo hi)),M)
 |.d (.tuple ds)=>some (.d (.tuple (eD ds lo hi)),M)
 |.c i=>match M[i]? with
  |some (.lst xs)=>(mW (eD xs lo hi)).bind fun ds=>some (.d (.list ds),M)
  |_=>none
 |_=>none
noncomputable def fSl(f:EF)(l u:OF):EF:=fun γ M=>(f γ M).bind fun r=>(l γ r.2).bind fun p=>(u γ p.2).bind fun q=>slF r.1 p.1 q.1 q.2
noncomputable def aEV(K:Fg):V->Option Int->Option Int->Hp->VK->Prop:=fun x lo hi H Q=>aIn K x lo hi H Q\/aHJ K x lo hi H Q\/aIm K x lo hi H Q
theorem kSl{X:Cx}(h:X.K=K):SlR X (aEV K):=by subst h;exact sl_list.or (sl_tup.or UU)
section
variable{K:Fg}
noncomputable def SO(K:Fg)(t:TO)(f:OF):Prop:=∀γ M b M',f γ M=some (b,M')->∀(W:Wd)(H:Hp)(σ:St)(Q:Option Int->Hp->Prop),Good K W M H->dC K W γ σ->(∀W' H',W.Ext W'->Good K W' M' H'->Q b H')->t σ H Q
theorem aBm:SO K QP bV:=by
 intro γ M x M' hh W H σ Q G R k;cases hh;exact k W H (.refl _) G
theorem aEk{x:CD}{i:Int}(h:asI x=some i):x=.d (.int i):=by
 cases x with
 |c n=>cases h
 |t n=>cases h
 |f n=>cases h
 |d x=>cases x<;>first|cases h;rfl|cases h
theorem aBO{ta:TE}{f:EF}(a:SE K ta f):SO K (aDC ta) (dW f):=by
 intro γ M x M' hh W H σ Q G R k;obtain⟨⟨y,M1⟩,h1,hh⟩:=aH hh;obtain⟨i,h2,hh⟩:=aH hh;cases hh;refine a _ _ _ _ h1 W H σ _ G R fun v W1 H1 e1 G1 r1=>?_;have hy:y=_:=aEk h2;subst hy;exact⟨i,r1,k W1 H1 e1 G1⟩
theorem aL.drop{H:Hp}:∀{ds:List PyData}{vs:List V}(n:Nat),aL K H ds vs->aL K H (ds.drop n) (vs.drop n)
 |_,_,0=>fun h=>h
 |[],vs,n+1=>fun h=>by rw[show vs=[]from h];rfl
 |d::ds,vs,n+1=>fun h=>by
  obtain⟨v,r,rfl,_,h3⟩:=h;exact aL.drop n h3
theorem aL.take{H:Hp}:∀{ds:List PyData}{vs:List V}(n:Nat),aL K H ds vs->aL K H (ds.take n) (vs.take n)
 |_,_,0=>fun h=>rfl
 |[],vs,n+1=>fun h=>by rw[show vs=[]from h];rfl
 |d::ds,vs,n+1=>fun h=>by
  obtain⟨v,r,rfl,h2,h3⟩:=h;exact⟨v,r.take n,rfl,h2,aL.take n h3⟩
theorem aL.cut{ds:List PyData}{vs:List V}(h:aL K H ds vs)(lo hi:Option Int):aL K H (eD ds lo hi) (vP vs lo hi):=by
 unfold eD vP;rw[h.length];exact(h.drop _).take _
theorem zR{α β:Type}{R:α->β->Prop}:∀{xs:List α}{ys:List β}(n:Nat),Paired R xs ys->Paired R (xs.drop n) (ys.drop n)
 |_,_,0,h=>h
 |_,_,_+1,.nil=>.nil
 |_,_,n+1,.cons _ t=>zR n t
theorem tO{α β:Type}{R:α->β->Prop}:∀{xs:List α}{ys:List β}(n:Nat),Paired R xs ys->Paired R (xs.take n) (ys.take n)
 |_,_,0,h=>.nil
 |_,_,_+1,.nil=>.nil
 |_,_,n+1,.cons r t=>.cons r (tO n t)
theorem SJ{xs:List CD}{vs:List V}(h:cA K W xs vs)(lo hi:Option Int):cA K W (eD xs lo hi) (vP vs lo hi):=by
 unfold eD vP;rw[Paired.len h];exact tO _ (zR _ h)
theorem aAS{x:CD}{lo hi:Option Int}{M:Sto}{z:CD}{M':Sto}(h:slF x lo hi M=some (z,M')){v:V}{Q:VK}(G:Good K W M H)(rx:cH K W x v)(k:∀w W' H',W.Ext W'->Good K W' M' H'->cH K W' z w->Q w H'):aEV K v lo hi H Q:=by
 unfold slF at h;split at h
 .rename_i ds;cases h;obtain⟨p,us,rfl,hq,hr⟩:=(show ∃a us,_=V.ref a/\SqL K W.F a us/\aL K W.F ds us from rx);refine .inl ⟨p,us,rfl,G.fh.seq hq,fun l hl=>?_⟩;obtain⟨e2,G2⟩:=G.lay (o:=.lst (vP us lo hi)) hl;exact k _ _ _ e2 G2 ⟨l,_,rfl,SqL.of aY,aL.same e2.ff _ _ (hr.cut lo hi)⟩
 .rename_i ds;cases h;obtain⟨p,us,rfl,hq,hr⟩:=(show ∃a us,_=V.ref a/\SqT K W.F a us/\aL K W.F ds us from rx);by_cases hw:HT.sIx us.length 0 lo=0/\HT.sIx us.length us.length hi=us.length
  .refine .inr (.inr ⟨p,us,rfl,G.fh.seqT hq,hw,?_⟩)
   have e:eD ds lo hi=ds:=by
    unfold eD;rw[hr.length,hw.1,hw.2,<- hr.length];simp
   rw[e]at k;exact k _ W H (.refl _) G ⟨p,us,rfl,hq,hr⟩
  .refine .inr (.inl ⟨p,us,rfl,G.fh.seqT hq,hw,fun l hl=>?_⟩);obtain⟨e2,G2⟩:=G.lay (o:=.tup (vP us lo hi)) hl;exact k _ _ _ e2 G2 ⟨l,_,rfl,SqT.of aY,aL.same e2.ff _ _ (hr.cut lo hi)⟩
 .rename_i i;split at h
  .rename_i xs hx;obtain⟨ds,h1,h⟩:=aH h;cases h;obtain⟨us,hv,hr⟩:=G.lstAt hx;rw[rx.2];refine .inl ⟨_,us,rfl,SqL.of hv,fun l hl=>?_⟩;obtain⟨e2,G2⟩:=G.lay (o:=.lst (vP us lo hi)) hl;exact k _ _ _ e2 G2 ⟨l,_,rfl,SqL.of aY,aL.same e2.ff _ _ (fQ h1 (SJ hr lo hi))⟩
  .cases h
 .cases h
theorem aHR{ta:TE}{f:EF}{tl th:TO}{l u:OF}(a:SE K ta f)(b:SO K tl l)(c:SO K th u):SE K (tSl (aEV K) ta tl th) (fSl f l u):=by
 intro γ M x M' hh W H σ Q G R k;obtain⟨⟨y,M1⟩,h1,hh⟩:=aH hh;obtain⟨⟨p,M2⟩,h2,hh⟩:=aH hh;obtain⟨⟨q,M3⟩,h3,hh⟩:=aH hh;refine a _ _ _ _ h1 W H σ _ G R fun v W1 H1 e1 G1 r1=>?_;refine b _ _ _ _ h2 W1 H1 σ _ G1 (R.up e1) fun W2 H2 e2 G2=>?_;refine c _ _ _ _ h3 W2 H2 σ _ G2 (R.up (e1.trans e2)) fun W3 H3 e3 G3=>?_;exact aAS hh G3 (r1.up (e2.trans e3)) fun w W4 H4 e4 G4 r4=>k w W4 H4 (((e1.trans e2).trans e3).trans e4) G4 r4
noncomputable def lM:FN:=fun xs M=>match xs with
 |[.d (.int i)]=>some (.d (.int i),M)
 |[.d (.bool b)]=>some (.d (.int (if b then 1 else 0)),M)
 |_=>none
theorem aEI:PN K (fun xs H Q=>(∃i,xs=[.int i]/\Q (.int i) H)\/∃k,xs=[.bl k]/\Q (.int (if k then 1 else 0)) H) lM:=by
 intro xs M z M' h W H vs Q G r k;unfold lM at h;split at h
 .rename_i i;cases h;rcases r with _|⟨r1,_|_⟩;exact .inl ⟨i,by rw[show _=V.int i from r1],k _ W H (.refl _) G rfl⟩
 .rename_i b;cases h;rcases r with _|⟨r1,_|_⟩;exact .inr ⟨b,by rw[show _=V.bl b from r1],k _ W H (.refl _) G rfl⟩
 .cases h
noncomputable def tyB(T:String)(M:Sto):CD->Bool
 |.d (.list _)=>T=="list"
 |.d (.str _)=>T=="str"
 |.c i=>match M[i]? with
  |some (.lst _)=>T=="list"
  |some (.dk _)=>T=="dict"
  |some (.dt _)=>T=="dict"
  |_=>false
 |_=>false
theorem WC{T:String}{M:Sto}{x:CD}{v:V}(h:tyB T M x=true)(G:Good K W M H)(r:cH K W x v):tyV K T v H:=by
 unfold tyB at h;split at h
 .rename_i ds;obtain⟨p,us,rfl,hq,hr⟩:=(show ∃a us,_=V.ref a/\SqL K W.F a us/\aL K W.F ds us from r);exact .inl ⟨eq_of_beq h,us,G.fh.seq hq⟩
 .rename_i x;rw[show v=.str x from r];exact eq_of_beq h
 .rename_i i;rw[r.2];split at h
  .rename_i xs hx;obtain⟨us,hv,hr⟩:=G.lstAt hx;exact .inl ⟨eq_of_beq h,us,SqL.of hv⟩
  .rename_i kvs hx;obtain⟨_,o,g2,g3⟩:=G.cs i _ hx (by intro z;cases z);cases o with
   |dK us=>exact .inr (.inr (.inl ⟨eq_of_beq h,.inl ⟨us,g2⟩⟩))
   |_=>exact False.elim g3
  .rename_i kvs hx;obtain⟨_,o,g2,g3⟩:=G.cs i _ hx (by intro z;cases z);cases o with
   |dT us=>exact .inr (.inr (.inl ⟨eq_of_beq h,.inr ⟨us,g2⟩⟩))
   |_=>exact False.elim g3
  .cases h
 .cases h
noncomputable abbrev FM:=CD->List CD->Sto->Option (CD×Sto)
noncomputable def bU(T:String)(h:FM)(f:EF)(fa:AF):EF:=fun γ M=>(f γ M).bind fun r=>if tyB T r.2 r.1=true then(fa γ r.2).bind fun q=>h r.1 q.1 q.2 else none
noncomputable def PM(K:Fg)(r:V->List V->Hp->VK->Prop)(f:FM):Prop:=∀x xs M z M',f x xs M=some (z,M')->∀(W:Wd)(H:Hp)(v:V)(vs:List V)(Q:VK),Good K W M H->cH K W x v->cA K W xs vs->(∀w W' H',W.Ext W'->Good K W' M' H'->cH K W' z w->Q w H')->r v vs H Q
theorem aBx{T:String}{r:V->List V->Hp->VK->Prop}{h:FM}{ta:TE}{f:EF}{tA:TA}{fa:AF}(p:PM K r h)(a:SE K ta f)(b:SA K tA fa):SE K (tBM K T r ta tA) (bU T h f fa):=by
 intro γ M x M' hh W H σ Q G R k;obtain⟨⟨y,M1⟩,h1,hh⟩:=aH hh;by_cases hT:tyB T M1 y=true
 .have hh:(if tyB T M1 y=true then(fa γ M1).bind fun q=>h y q.1 q.2 else none)=some (x,M'):=hh;rw[A3 hT]at hh;obtain⟨⟨ys,M2⟩,h2,hh⟩:=aH hh;refine a _ _ _ _ h1 W H σ _ G R fun v W1 H1 e1 G1 r1=>⟨WC hT G1 r1,?_⟩;refine b _ _ _ _ h2 W1 H1 σ _ G1 (R.up e1) fun vs W2 H2 e2 G2 r2=>?_;exact p _ _ _ _ _ hh W2 H2 v vs Q G2 (r1.up e2) r2 fun w W3 H3 e3 G3 r3=>k w W3 H3 ((e1.trans e2).trans e3) G3 r3
 .have hh:(if tyB T M1 y=true then(fa γ M1).bind fun q=>h y q.1 q.2 else none)=some (x,M'):=hh;rw[A7 hT]at hh;cases hh
theorem IE{T:String}{r:V->List V->Hp->VK->Prop}{h:FM}{ta:TE}{f:EF}(p:PM K r h)(a:SE K ta f):SE K (aHD K T r ta) (bU T h f aG):=by
 intro γ M x M' hh W H σ Q G R k;obtain⟨⟨y,M1⟩,h1,hh⟩:=aH hh;have hh:(if tyB T M1 y=true then h y [] M1 else none)=some (x,M'):=hh;by_cases hT:tyB T M1 y=true
 .rw[A3 hT]at hh;refine a _ _ _ _ h1 W H σ _ G R fun v W1 H1 e1 G1 r1=>⟨WC hT G1 r1,?_⟩;exact p _ _ _ _ _ hh W1 H1 v [] Q G1 r1 .nil fun w W3 H3 e3 G3 r3=>k w W3 H3 (e1.trans e3) G3 r3
 .rw[A7 hT]at hh;cases hh
noncomputable def bZ:FM:=fun x ys M=>match x,ys with
 |.c i,[y]=>match M[i]? with
  |some (.lst xs)=>if xs.length<sizeLine then some (.d .none,M.set i (.lst (xs++[y])))else none
  |_=>none
 |_,_=>none
theorem TY:PM K OZ bZ:=by
 intro x ys M z M' h W H v vs Q G rx rs k;unfold bZ at h;split at h
 .rename_i i y;split at h
  .rename_i xs hx;by_cases hl:xs.length<sizeLine
   .rw[A3 hl]at h;cases h;obtain⟨us,hv,hr⟩:=G.lstAt hx;rcases rs with _|⟨r1,_|_⟩;refine⟨W.α i,us,_,rx.2,rfl,hv,by rw[<- Paired.len hr];exact hl,?_⟩;exact k _ W _ (.refl _) (G.set hx (by intro q;cases q) (c':=.lst (xs++[y])) (show cA K W _ _ from Paired.app hr (.cons r1 .nil))) rfl
   .rw[A7 hl]at h;cases h
  .cases h
 .cases h
noncomputable def jD:FM:=fun x ys M=>match x,ys with
 |.c i,[]=>match M[i]? with
  |some (.lst xs)=>(xs[xs.length-1]?).bind fun y=>some (y,M.set i (.lst xs.dropLast))
  |_=>none
 |_,_=>none
theorem BZ{α β:Type}{R:α->β->Prop}{xs:List α}{ys:List β}(h:Paired R xs ys):Paired R xs.dropLast ys.dropLast:=by
 rw[List.dropLast_eq_take,List.dropLast_eq_take,Paired.len h];exact tO _ h
theorem aGE:PM K aIg jD:=by
 intro x ys M z M' h W H v vs Q G rx rs k;unfold jD at h;split at h
 .rename_i i;split at h
  .rename_i xs hx;obtain⟨y,h1,h⟩:=aH h;cases h;obtain⟨us,hv,hr⟩:=G.lstAt hx;obtain⟨u,hu,ru⟩:=Paired.get hr h1;cases rs;refine⟨W.α i,us,u,rx.2,rfl,hv,by rw[<- Paired.len hr];exact hu,?_⟩;exact k _ W _ (.refl _) (G.set hx (by intro q;cases q) (c':=.lst xs.dropLast) (show cA K W _ _ from BZ hr)) ru
  .cases h
 .cases h
end
section
variable{ι:Type}{K:Fg}{X:ι->Cx}{a b c e o:Expr}{es:List Expr}{f g h:EF}{fa:AF}{pos:Pos}
structure MO(K:Fg)(X:ι->Cx)(e:Option Expr)(f:OF):Prop where
 ex:∃t,(∀i,PO (X i) e t)/\SO K t f
theorem fX:MO K X none bV:=⟨_,fun _=>aCI,aBm⟩
theorem eM(x:ME K X e f):MO K X (some e) (dW f):=by
 obtain⟨t,x1,x2⟩:=x.ex;exact⟨_,fun i=>aCZ (x1 i),aBO x2⟩
theorem lQ{lo hi:Option Expr}{l u:OF}{p2:Pos}(hK:∀i,(X i).K=K)(x:ME K X a f)(y:MO K X lo l)(z:MO K X hi u):ME K X (.Subscript a (.Slice lo hi none p2) pos) (fSl f l u):=by
 obtain⟨t,x1,x2⟩:=x.ex;obtain⟨t',y1,y2⟩:=y.ex;obtain⟨t'',z1,z2⟩:=z.ex;exact⟨_,fun i=>XQ (kSl (hK i)) (x1 i) (y1 i) (z1 i),aHR x2 y2 z2⟩
theorem IM:QN K X (.type "int") lM:=⟨_,fun _=>RS,aEI⟩
theorem gL(hK:∀i,(X i).K=K)(x:ME K X o f)(y:MA K X [e] fa)(hb:∀env:Env,attributeBase o "append" env (eval o env)=eval o env:=by intro _;rfl)(hl:(apos.endLine==cpos.line)=true:=by rfl):
 ME K X (.Call (.Attribute o "append" apos) [e] [] cpos) (bU "list" bZ f fa):=by
 obtain⟨t,x1,x2⟩:=x.ex;obtain⟨u,y1,y2⟩:=y.ex;refine⟨_,fun i=>?_,aBx TY x2 y2⟩;have:=aIL PySem.F.plainAttrs_list PySem.F.slot_list_append PySem.F.type_list_append RM (x1 i) (y1 i) (apos:=apos) (cpos:=cpos) (hb _) (by rw[y.st.1];rfl) hl (y.st.1 _) (y.st.2.plain _ _);rw[hK i]at this;exact this
theorem vV(hK:∀i,(X i).K=K)(x:ME K X o f)(hb:∀env:Env,attributeBase o "pop" env (eval o env)=eval o env:=by intro _;rfl)(hl:(apos.endLine==cpos.line)=true:=by rfl):
 ME K X (.Call (.Attribute o "pop" apos) [] [] cpos) (bU "list" jD f aG):=by
 obtain⟨t,x1,x2⟩:=x.ex;refine⟨_,fun i=>?_,IE aGE x2⟩;have:=XU PySem.F.plainAttrs_list PySem.F.slot_list_pop PySem.F.type_list_pop aFJ (x1 i) (apos:=apos) (cpos:=cpos) (hb _) hl;rw[hK i]at this;exact this
end
theorem Def.okNone{P:Program}{w:World}{mg:Str->Option Value}{base:Heap}{x:Str}{st:Stmt}{N ps:List Str}{k:Nat}(D:Def K mg x st)(S:aX N ps (aI st))
 (hb:∀(kV doc pm:Value)(an:Option Addr)(cdv ct:Value)(us:List Value),us.length=ps.length->bindArgs (PySem.W.fnOf x x (gW st) (dB st) (aI st) .none kV doc pm an cdv ct) ⟨us,[]⟩=pure (ps.zip us)):
 Callee P w K mg base (k+1) x ps (spM K fun _ _=>none):=by
 refine D.ok S hb (fun vs H Q E h=>?_) fun f cdv A outer s H vs Q E hr h=>?_
 .obtain⟨xs,M,W,y,M',G,R,hf,_⟩:=h;cases hf
 .obtain⟨xs,M,W,y,M',G,R,hf,_⟩:=h;cases hf
noncomputable def wL:EF:=fun _ M=>some (.d (.dict []),M)
theorem ZA:SE K NW wL:=by
 intro γ M x M' hh W H σ Q G R k;cases hh;intro p hp;obtain⟨e2,G2⟩:=G.lay (o:=.dK []) hp;exact k _ _ _ e2 G2 ⟨p,[],rfl,aY,rfl⟩
noncomputable def AU:List (EF×EF)->Ga->Sto->Option (List (CD×CD)×Sto)
 |[],_,M=>some ([],M)
 |(f,g)::r,γ,M=>(f γ M).bind fun a=>(g γ a.2).bind fun b=>(AU r γ b.2).bind fun q=>some ((a.1,b.1)::q.1,q.2)
noncomputable def keyOf:CD->Option Key
 |.d (.int i)=>some (.inl i)
 |.d (.str x)=>some (.inr x)
 |_=>none
section
variable{K:Fg}
noncomputable def SPs(K:Fg):List (TE×TE)->List (EF×EF)->Prop:=Paired fun t f=>SE K t.1 f.1/\SE K t.2 f.2
theorem aAC:∀{ts:List (TE×TE)}{fs:List (EF×EF)},SPs K ts fs->∀{γ:Ga}{M:Sto}{xs:List (CD×CD)}{M':Sto},AU fs γ M=some (xs,M')->∀{W:Wd}{H:Hp}{σ:St}{Q:List (V×V)->Hp->Prop},Good K W M H->dC K W γ σ->
 (∀vs W' H',W.Ext W'->Good K W' M' H'->Paired (fun a b=>cH K W' a.1 b.1/\cH K W' a.2 b.2) xs vs->Q vs H')->FF ts σ H Q
 |_,_,.nil,γ,M,xs,M',h,W,H,σ,Q,G,R,k=>by
  cases h;exact k [] W H (.refl _) G .nil
 |_,_,.cons s1 s2,γ,M,xs,M',h,W,H,σ,Q,G,R,k=>by
  obtain⟨⟨a,M1⟩,h1,h⟩:=aH h;obtain⟨⟨b,M2⟩,h2,h⟩:=aH h;obtain⟨⟨q,M3⟩,h3,h⟩:=aH h;cases h;refine s1.1 _ _ _ _ h1 W H σ _ G R fun v W1 H1 e1 G1 r1=>?_;refine s1.2 _ _ _ _ h2 W1 H1 σ _ G1 (R.up e1) fun u W2 H2 e2 G2 r2=>?_;refine aAC s2 h3 G2 (R.up (e1.trans e2)) fun vs W3 H3 e3 G3 r3=>?_;exact k _ W3 H3 ((e1.trans e2).trans e3) G3 (.cons ⟨r1.up (e2.trans e3),r2.up e3⟩ r3)
theorem DG{x:CD}{k:Key}{v:V}(h:keyOf x=some k)(r:cH K W x v):v=kV k:=by
 unfold keyOf at h;split at h
 .cases h;exact r
 .cases h;exact r
 .cases h
theorem EU:∀(more acc:List (Key×V)),((acc++more).map (·.1)).Nodup->pQ acc more=acc++more
 |[]=>fun acc _=>by simp[pQ]
 |p::more=>fun acc h=>by
  have hn:iO acc p.1=none:=by
   unfold iO;rw[Option.map_eq_none_iff,List.find?_eq_none];intro x hx hd;have:x.1=p.1:=D6 hd;rw[D3,U7]at h;exact h.2.2 x.1 (List.mem_map_of_mem hx) p.1 (by simp) this
  show pQ (putK acc p.1 p.2) more=_;rw[VB _ hn,EU more _ (by rw[C2];exact h),C2];rfl
end
section
variable{ι:Type}{K:Fg}{X:ι->Cx}
structure MD(K:Fg)(X:ι->Cx)(pos:Pos)(ks:List (Option Expr))(vs:List Expr)(fs:List (EF×EF)):Prop where
 ex:∃ts,(∀i,PPs (X i) pos ks vs ts)/\SPs K ts fs
theorem XY:MD K X pos [] [] []:=⟨_,fun _=>aBd,.nil⟩
theorem PB{k v:Expr}{ks:List (Option Expr)}{vs:List Expr}{f g:EF}{fs:List (EF×EF)}(x:ME K X k f)(y:ME K X v g)(z:MD K X pos ks vs fs):MD K X pos (some k::ks) (v::vs) ((f,g)::fs):=by
 obtain⟨t,x1,x2⟩:=x.ex;obtain⟨u,y1,y2⟩:=y.ex;obtain⟨o,z1,z2⟩:=z.ex;exact⟨_,fun i=>aAI (x1 i) (y1 i) (z1 i),.cons ⟨x2,y2⟩ z2⟩
theorem KB:ME K X (.Dict [] [] pos) wL:=⟨_,fun _=>JF,ZA⟩
end
section
variable{K:Fg}
theorem look_none{W:Wd}{f:Str}:∀{fs:List (Str×CD)}{us:List (Str×V)},Paired (fun p q=>p.1=q.1/\cH K W p.2 q.2) fs us->fs.lookup f=none->us.lookup f=none
 |_,_,.nil=>fun h=>rfl
 |(g,y)::fs,(g',u)::us,.cons h t=>fun e=>by
  obtain⟨h1,h2⟩:=h;have h1:g=g':=h1;subst h1;rw[D9]at e ⊢;by_cases q:(f==g)=true
  .rw[q]at e;cases e
  .have q':(f==g)=false:=by simpa using q
   rw[q']at e ⊢;exact look_none t e
end
section
variable{K:Fg}
theorem DI{α β:Type}{R:α->β->Prop}:∀{xs:List α}{ys:List β},Paired R xs ys->Paired R xs.reverse ys.reverse
 |_,_,.nil=>.nil
 |_,_,.cons h t=>by
  rw[O0,O0];exact Paired.app (DI t) (.cons h .nil)
noncomputable def lG:FM:=fun x ys M=>match x,ys with
 |.c i,[]=>match M[i]? with
  |some (.lst xs)=>some (.d .none,M.set i (.lst xs.reverse))
  |_=>none
 |_,_=>none
theorem MV:PM K LB lG:=by
 intro x ys M z M' h W H v vs Q G rx rs k;unfold lG at h;split at h
 .rename_i i;split at h
  .rename_i xs hx;cases h;obtain⟨us,hv,hr⟩:=G.lstAt hx;cases rs;refine⟨W.α i,us,rx.2,rfl,hv,?_⟩;exact k _ W _ (.refl _) (G.set hx (by intro q;cases q) (c':=.lst xs.reverse) (show cA K W _ _ from DI hr)) rfl
  .cases h
 .cases h
end
section
variable{ι:Type}{K:Fg}{X:ι->Cx}{a b c e o:Expr}{es:List Expr}{f g h:EF}{fa:AF}{pos:Pos}
theorem NU(hK:∀i,(X i).K=K)(x:ME K X o f)(hb:∀env:Env,attributeBase o "reverse" env (eval o env)=eval o env:=by intro _;rfl)(hl:(apos.endLine==cpos.line)=true:=by rfl):
 ME K X (.Call (.Attribute o "reverse" apos) [] [] cpos) (bU "list" lG f aG):=by
 obtain⟨t,x1,x2⟩:=x.ex;refine⟨_,fun i=>?_,IE MV x2⟩;have:=XU PySem.F.plainAttrs_list PySem.F.slot_list_reverse PySem.F.type_list_reverse MP (x1 i) (apos:=apos) (cpos:=cpos) (hb _) hl;rw[hK i]at this;exact this
end
open PySem PySem.W PyProof.Rows
noncomputable def KS{α:Type}(lt:Nat->Nat->Bool)(n:Nat):KasT α->(α->Prop)->Prop
 |.ret a,Q=>Q a
 |.ask i j k,Q=>i<n/\j<n/\KS lt n (k (lt i j)) Q
theorem KS.bind{α β:Type}{lt:Nat->Nat->Bool}{n:Nat}{f:α->KasT β}{Q:β->Prop}:∀{t:KasT α},KS lt n t (fun a=>KS lt n (f a) Q)->KS lt n (t.bind f) Q
 |.ret _=>fun h=>h
 |.ask _ _ _=>fun h=>⟨h.1,h.2.1,KS.bind h.2.2⟩
theorem KS.mono{α:Type}{lt:Nat->Nat->Bool}{n:Nat}{Q R:α->Prop}(m:∀a,Q a->R a):∀{t:KasT α},KS lt n t Q->KS lt n t R
 |.ret _=>fun h=>m _ h
 |.ask _ _ _=>fun h=>⟨h.1,h.2.1,KS.mono m h.2.2⟩
theorem KS.wp{α:Type}{lt:Nat->Nat->Bool}{n:Nat}{Q:α->Prop}{R:α->Shared->Prop}{s:Shared}{cmp:Nat->Nat->(Bool->Shared->Prop)->Shared->Prop}
 (hc:∀i j C,i<n->j<n->C (lt i j) s->cmp i j C s) (m:∀a,Q a->R a s):∀{t:KasT α},KS lt n t Q->KasT.kasWp cmp t R s
 |.ret _=>fun h=>m _ h
 |.ask _ _ _=>fun h=>hc _ _ _ h.1 h.2.1 (KS.wp hc m h.2.2)
section
variable{lt:Nat->Nat->Bool}{n:Nat}
structure uT(lt:Nat->Nat->Bool):Prop where
 as:∀a b,lt a b=true->lt b a=false
 tr:∀a b c,lt b a=false->lt c b=false->lt c a=false
theorem uT.up(o:uT lt){a b c:Nat}(h:lt c a=true)(h':lt b a=false):lt c b=true:=by
 cases e:lt c b with
 |true=>rfl
 |false=>rw[o.tr _ _ _ h' e]at h;cases h
noncomputable def Inv2(n:Nat)(p:Array Nat):Prop:=p.Perm (List.range n).toArray
theorem Inv2.sz{p:Array Nat}(h:Inv2 n p):p.size=n:=by
 have:=(Array.perm_iff_toList_perm.mp h).length_eq;simpa using this
theorem Inv2.ent{p:Array Nat}(h:Inv2 n p)(h0:0<n)(k:Nat):p.getD k 0<n:=by
 rw[E9];cases e:p[k]? with
 |none=>exact h0
 |some x=>
  have hm:x∈p:=Array.mem_of_getElem? e;have:=(h.mem_iff (a:=x)).mp hm;simpa using this
noncomputable def iL(lt:Nat->Nat->Bool)(p:Array Nat)(n:Nat):Prop:=∀i j,i<j->j<n->lt (p.getD j 0) (p.getD i 0)=false
noncomputable def vG(lt:Nat->Nat->Bool)(p:Array Nat)(n:Nat):Prop:=∀i j,i<j->j<n->lt (p.getD i 0) (p.getD j 0)=false
noncomputable def aAH(lt:Nat->Nat->Bool)(p:Array Nat)(n q:Nat):Prop:=∀i j,n<=i+q+1->i<j->j<n->lt (p.getD j 0) (p.getD i 0)=false
theorem iL.ext(o:uT lt){p:Array Nat}{m:Nat}(h:iL lt p m)(h1:1<=m)(h2:lt (p.getD m 0) (p.getD (m-1) 0)=false):iL lt p (m+1):=by
 intro i j hij hj;by_cases e:j=m
 .subst e;by_cases e':i=j-1
  .subst e';exact h2
  .exact o.tr _ _ _ (h i (j-1) (by omega) (by omega)) h2
 .exact h i j hij (by omega)
theorem vG.ext(o:uT lt){p:Array Nat}{m:Nat}(h:vG lt p m)(h1:1<=m)(h2:lt (p.getD (m-1) 0) (p.getD m 0)=false):vG lt p (m+1):=by
 intro i j hij hj;by_cases e:j=m
 .subst e;by_cases e':i=j-1
  .subst e';exact h2
  .exact o.tr _ _ _ h2 (h i (j-1) (by omega) (by omega))
 .exact h i j hij (by omega)
theorem MU(o:uT lt){p:Array Nat}(hp:Inv2 n p)(h0:0<n){Q:Nat->Prop}:∀(f m:Nat),1<=m->iL lt p m->(∀r,m<=r->r<=m+f->iL lt p r->(r<m+f->lt (p.getD r 0) (p.getD (r-1) 0)=true)->Q r)->KS lt n (kas_asc p f m) Q
 |0=>fun m h1 hs k=>by
  rw[kas_asc.eq_def];exact k m (A6 _) (A6 _) hs (fun h=>absurd h (F8 _))
 |f+1=>fun m h1 hs k=>by
  rw[kas_asc.eq_def];refine⟨hp.ent h0 _,hp.ent h0 _,?_⟩;cases e:lt (p.getD m 0) (p.getD (m-1) 0)with
  |true=>exact k m (A6 _) (by omega) hs (fun _=>e)
  |false=>exact MU o hp h0 f (m+1) (by omega) (hs.ext o h1 e) fun r a b c d=>k r (by omega) (by omega) c (fun z=>d (by omega))
theorem gT{p:Array Nat}(hp:Inv2 n p)(i j:Nat):Inv2 n (kas_rev p i j):=(mirror_perm p i j _).trans hp
theorem rT{p:Array Nat}{i j:Nat}(hj:j<=p.size)(k:Nat):(kas_rev p i j).getD k 0=if i<=k/\k<j then p.getD (i+j-1-k) 0 else p.getD k 0:=by
 rw[E9,show(kas_rev p i j)[k]?=_ from getElem?_mirror_all hj k];by_cases e:i<=k/\k<j
 .rw[A3 e,A3 e,E9]
 .rw[A7 e,A7 e,E9]
theorem LF(o:uT lt){p:Array Nat}{lo hi m:Nat}(hm:m<=p.size)(hh:hi<=m)(d:vG lt p m)(e:∀i j,lo<=i->i<j->j<hi->lt (p.getD j 0) (p.getD i 0)=false):vG lt (kas_rev p lo hi) m:=by
 intro i j hij hj;rw[rT (by omega),rT (by omega)];by_cases a:lo<=i/\i<hi
 .rw[A3 a];by_cases b:lo<=j/\j<hi
  .rw[A3 b];exact e _ _ (by omega) (by omega) (by omega)
  .rw[A7 b];exact d _ _ (by omega) hj
 .rw[A7 a];by_cases b:lo<=j/\j<hi
  .rw[A3 b];exact d _ _ (by omega) (by omega)
  .rw[A7 b];exact d _ _ hij hj
theorem yR(o:uT lt)(h0:0<n){Q:Array Nat×Nat×Nat->Prop}:∀(f:Nat)(p:Array Nat)(m q:Nat),Inv2 n p->1<=m->m+f<=n->vG lt p m->aAH lt p m q->q+1<=m->
 (∀p' m' q',Inv2 n p'->m<=m'->m'<=m+f->vG lt p' m'->aAH lt p' m' q'->q'+1<=m'->Q (p',m',q'))->KS lt n (kas_desc f p m q) Q
 |0=>fun p m q hp h1 h2 hd he hq k=>by
  rw[kas_desc.eq_def];exact k p m q hp (A6 _) (A6 _) hd he hq
 |f+1=>fun p m q hp h1 h2 hd he hq k=>by
  rw[kas_desc.eq_def];refine⟨hp.ent h0 _,hp.ent h0 _,?_⟩;have hsz:=hp.sz;have e0:∀p':Array Nat,aAH lt p' (m+1) 0:=fun p' i j a b c=>by omega
  cases c:lt (p.getD m 0) (p.getD (m-1) 0)with
  |true=>
   have hd1:=hd.ext o h1 (o.as _ _ c);dsimp only;rw[A3 rfl];by_cases hq0:q > 0
   .rw[A3 hq0];exact yR o h0 f _ (m+1) 0 (gT hp _ _) (by omega) (by omega) (LF o (by omega) (by omega) hd1 (fun i j a b d=>he i j (by omega) b (by omega))) (e0 _) (by omega) fun p' m' q' a b c' d e g=>k p' m' q' a (by omega) (by omega) d e g
   .rw[A7 hq0];exact yR o h0 f _ (m+1) 0 hp (by omega) (by omega) hd1 (e0 _) (by omega) fun p' m' q' a b c' d e g=>k p' m' q' a (by omega) (by omega) d e g
  |false=>
   dsimp only;rw[A7 A8];refine⟨hp.ent h0 _,hp.ent h0 _,?_⟩;cases d:lt (p.getD (m-1) 0) (p.getD m 0)with
   |true=>
    dsimp only;rw[A3 rfl];exact k p m q hp (A6 _) (by omega) hd he hq
   |false=>
    dsimp only;rw[A7 A8];refine yR o h0 f p (m+1) (q+1) hp (by omega) (by omega) (hd.ext o h1 d) ?_ (by omega) fun p' m' q' a b c' d e g=>k p' m' q' a (by omega) (by omega) d e g;intro i j a b e;by_cases ej:j=m
    .subst ej;by_cases ei:i=j-1
     .subst ei;exact c
     .exact o.tr _ _ _ (he i (j-1) (by omega) (by omega) (by omega)) c
    .exact he i j (by omega) b (by omega)
noncomputable def Part(lt:Nat->Nat->Bool)(n:Nat)(r:Nat×Array Nat):Prop:=Inv2 n r.2/\1<=r.1/\r.1<=n/\iL lt r.2 r.1
theorem JV(o:uT lt)(h0:0<n){p:Array Nat}{m:Nat}(hp:Inv2 n p)(h1:1<=m)(h2:m<=n)(hd:vG lt p m):KS lt n (kas_tail3 m n p) (Part lt n):=by
 have hsz:=hp.sz;rw[kas_tail3.eq_def];refine KS.bind (MU o (gT hp 0 m) h0 _ _ h1 ?_ fun r a b c _=>⟨gT hp 0 m,by omega,by omega,c⟩);intro i j hij hj;rw[rT (by omega),rT (by omega),A3 (by omega),A3 (by omega)];exact hd _ _ (by omega) (by omega)
theorem xX(o:uT lt)(h0:0<n){p:Array Nat}{m:Nat}(hp:Inv2 n p)(h2:m+1<=n)(hd:vG lt p (m+1)):KS lt n (kas_descPart m n p) (Part lt n):=by
 rw[kas_descPart.eq_def];refine KS.bind (yR o h0 _ _ _ _ hp (by omega) (by omega) hd (fun i j a b c=>by omega) (by omega) fun p' m' q' a b c d e g=>?_);have hsz:=a.sz;show KS lt n (if q' > 0 then kas_tail3 m' n (kas_rev p' (m'-(q'+1)) m')else kas_tail3 m' n p') _;by_cases hq:q' > 0
 .rw[A3 hq];exact JV o h0 (gT a _ _) (by omega) (by omega) (LF o (by omega) (A6 _) d fun i j x y z=>e i j (by omega) y z)
 .rw[A7 hq];exact JV o h0 a (by omega) (by omega) d
theorem VS(o:uT lt)(h0:0<n){p:Array Nat}(hp:Inv2 n p):KS lt n (kas_count n p) (Part lt n):=by
 have hsz:=hp.sz;rw[kas_count.eq_def];refine KS.bind (MU o hp h0 _ _ (A6 _) (fun i j a b=>by omega) fun r a b c d=>?_);by_cases e:(r==n)=true
 .rw[A3 e];exact⟨hp,a,by omega,c⟩
 .rw[A7 e];have e':r≠n:=by simpa using e
  have hl:=d (by omega);by_cases g:r > 1
  .rw[A3 g];refine⟨hp.ent h0 _,hp.ent h0 _,?_⟩;cases l:lt (p.getD 0 0) (p.getD (r-1) 0)with
   |true=>dsimp only;rw[A3 rfl];exact⟨hp,a,by omega,c⟩
   |false=>
    dsimp only;rw[A7 A8];have le:∀i j,i<=j->j<r->i<j\/i=j:=fun i j x y=>by omega
    have irr:∀x,lt x x=false:=fun x=>by
     cases q:lt x x with
     |false=>rfl
     |true=>rw[o.as _ _ q]at q;cases q
    have up:∀i,i<r->lt (p.getD i 0) (p.getD (r-1) 0)=false:=fun i hi=>by
     have x1:lt (p.getD i 0) (p.getD 0 0)=false:=by
      by_cases z:i=0
      .subst z;exact irr _
      .exact c 0 i (by omega) hi
     exact o.tr _ _ _ l x1
    have dn:∀i,i<r->lt (p.getD (r-1) 0) (p.getD i 0)=false:=fun i hi=>by
     by_cases z:i=r-1
     .subst z;exact irr _
     .exact c i (r-1) (by omega) (by omega)
    have al:∀i j,i<r->j<r->lt (p.getD i 0) (p.getD j 0)=false:=fun i j hi hj=>o.tr _ _ _ (dn j hj) (up i hi);refine xX o h0 (gT hp _ _) (by omega) ?_;intro i j hij hj;rw[rT (by omega),rT (by omega),A3 (by omega)];by_cases z:j<r
    .rw[A3 (by omega)];exact al _ _ (by omega) (by omega)
    .rw[A7 (by omega)];have:j=r:=by omega
     subst this;exact o.tr _ _ _ (o.as _ _ hl) (up _ (by omega))
  .rw[A7 g];have:r=1:=by omega
   subst this;refine xX o h0 hp (by omega) ?_;intro i j hij hj;have:i=0:=by omega
   have:j=1:=by omega
   subst i;subst j;exact o.as _ _ hl
theorem yX(o:uT lt)(h0:0<n){p:Array Nat}(hp:Inv2 n p){k:Nat}(hs:iL lt p k){Q:Nat->Prop}(q:∀l,l<=k->(∀i,i<l->lt (p.getD k 0) (p.getD i 0)=false)->(∀i,l<=i->i<k->lt (p.getD k 0) (p.getD i 0)=true)->Q l):
 ∀(f l r:Nat),l<=r->r<=k->r-l<=f->(∀i,i<l->lt (p.getD k 0) (p.getD i 0)=false)->(∀i,r<=i->i<k->lt (p.getD k 0) (p.getD i 0)=true)->KS lt n (kas_place p k f l r) Q
 |0=>fun l r h1 h2 h3 a b=>by
  rw[kas_place.eq_def];have:l=r:=by omega
  subst this;exact q l h2 a b
 |f+1=>fun l r h1 h2 h3 a b=>by
  rw[kas_place.eq_def];show KS lt n (if l>=r then _ else _) Q;by_cases g:l>=r
  .rw[A3 g];have:l=r:=by omega
   subst this;exact q l h2 a b
  .rw[A7 g];refine⟨hp.ent h0 _,hp.ent h0 _,?_⟩;cases c:lt (p.getD k 0) (p.getD ((l+r) / 2) 0)with
   |true=>
    dsimp only;rw[A3 rfl];refine yX o h0 hp hs q f _ _ (by omega) (by omega) (by omega) a fun i x y=>?_;by_cases z:i=(l+r) / 2
    .subst z;exact c
    .exact o.up c (hs _ _ (by omega) y)
   |false=>
    dsimp only;rw[A7 A8];refine yX o h0 hp hs q f _ _ (by omega) (by omega) (by omega) (fun i x=>?_) b;by_cases z:i=(l+r) / 2
    .subst z;exact c
    .exact o.tr _ _ _ (hs i ((l+r) / 2) (by omega) (by omega)) c
theorem QC{p:Array Nat}{src d:Nat}(h:src<p.size)(hd:d<=src)(k:Nat):(bubble p src d).getD k 0=if k=src-d then p.getD src 0 else if src-d<k/\k<=src then p.getD (k-1) 0 else p.getD k 0:=by
 rw[E9,getElem?_bubble h d hd k];by_cases e:k=src-d
 .rw[A3 e,A3 e,E9]
 .rw[A7 e,A7 e];by_cases e2:src-d<k/\k<=src
  .rw[A3 e2,A3 e2,E9]
  .rw[A7 e2,A7 e2,E9]
theorem aAh(o:uT lt)(h0:0<n){Q:Array Nat->Prop}(q:∀p,Inv2 n p->iL lt p n->Q p):∀(f:Nat)(p:Array Nat)(k:Nat),Inv2 n p->k+f=n->iL lt p k->KS lt n (kas_bin f p k) Q
 |0=>fun p k hp hk hs=>by
  rw[kas_bin.eq_def];have:k=n:=by omega
  subst this;exact q p hp hs
 |f+1=>fun p k hp hk hs=>by
  rw[kas_bin.eq_def];have hsz:=hp.sz;refine KS.bind (yX o h0 hp hs (fun l hl a b=>?_) k 0 k (by omega) (by omega) (by omega) (fun i x=>by omega) (fun i x y=>by omega));refine aAh o h0 q f _ (k+1) ((bubble_perm p k (k-l)).trans hp) (by omega) ?_;intro i j hij hj;rw[QC (by omega) (by omega),QC (by omega) (by omega)];have hkl:k-(k-l)=l:=by omega
  rw[hkl];by_cases j1:j=l
  .rw[A3 j1,A7 (by omega),A7 (by omega)];exact a i (by omega)
  .rw[A7 j1];by_cases j2:l<j/\j<=k
   .rw[A3 j2];by_cases i1:i=l
    .rw[A3 i1];exact o.as _ _ (b _ (by omega) (by omega))
    .rw[A7 i1];by_cases i2:l<i/\i<=k
     .rw[A3 i2];exact hs _ _ (by omega) (by omega)
     .rw[A7 i2];exact hs _ _ (by omega) (by omega)
   .rw[A7 j2,A7 (by omega),A7 (by omega)];exact hs _ _ hij (by omega)
theorem aCJ(o:uT lt)(h0:0<n):KS lt n (kas_sort n) (fun p=>Inv2 n p/\iL lt p n):=by
 unfold kas_sort;refine KS.bind (KS.mono (fun r h=>?_) (VS o h0 (p:=(List.range n).toArray) (Array.Perm.refl _)));obtain⟨a,b,c,d⟩:=h;by_cases e:r.fst<n
 .rw[A3 e];have hm:max r.fst 1=r.fst:=by omega
  rw[hm];exact aAh o h0 (fun p x y=>⟨x,y⟩) _ _ _ a (by omega) d
 .rw[A7 e];have:r.fst=n:=by omega
  exact⟨a,this▸d⟩
end
end L2
namespace L2
open PySem PySem.Spec PyProof.Rows
noncomputable def kY:List PyData->Option (List Int)
 |[]=>some []
 |.int n::r=>(kY r).bind fun ns=>some (n::ns)
 |_=>none
theorem nR{h:Heap}:∀{ds:List PyData}{us:List Value}{as:List Addr}{ns:List Int},ReadsAll h us ds as->kY ds=some ns->IntsAre us ns
 |[],_,_,_=>fun r e=>by cases r;cases e;exact .nil
 |d::ds,_,_,_=>fun r e=>by
  cases r with
  |cons r1 r2=>
   cases d with
   |int n=>
    have e:(kY ds).bind (fun ns=>some (n::ns))=some _:=e;obtain⟨ms,h1,h2⟩:=Option.bind_eq_some_iff.mp e;cases h2;cases r1;exact .cons _ _ (nR r2 h1)
   |_=>cases e
noncomputable def fL:PyData->PyData->Option Bool
 |.int a,.int b=>some (decide (a<b))
 |.tuple xs,.tuple ys=>(kY xs).bind fun ns=>(kY ys).bind fun ms=>some (HT.lexLt ns ms)
 |_,_=>none
noncomputable def cY:List PyData->List PyData->Option Bool
 |[],ys=>some (decide (0<ys.length))
 |_::_,[]=>some false
 |x::xs,y::ys=>if PyData.eqv x y=true then cY xs ys else fL x y
noncomputable def isI:PyData->Bool
 |.int _=>true
 |_=>false
section
variable{prog:Program}{w:World}{A:Around}{E:Value->Shared->Prop}{s:Shared}
theorem aCu{p q:Value}{x y:PyData}{as bs:List Addr}{c fl:Bool}{Q:Bool->Shared->Prop}(hu:A.units<cLine)(r1:Reads s.heap p x as)(r2:Reads s.heap q y bs)(h:fL x y=some c)(hf:fl=true->isI x=true/\isI y=true)(k:Q c s):
 wpAny (model prog w) A (oneLt' fl p q) Q E s:=by
 unfold fL at h;split at h
 .rename_i a b;cases r1;cases r2;cases h;cases fl with
  |true=>exact oneLt_int k
  |false=>exact PySem.W.kat_one _ _ (lt_int k)
 .rename_i xs ys;obtain⟨ns,h1,h⟩:=Option.bind_eq_some_iff.mp h;obtain⟨ms,h2,h⟩:=Option.bind_eq_some_iff.mp h;cases h;cases fl with
  |true=>exact absurd (hf rfl).1 (by intro z;cases z)
  |false=>
   cases r1 with
   |tuple g1 g2 g3 g4=>
    cases r2 with
    |tuple k1 k2 k3 k4=>
     exact PySem.W.kat_one _ _ (HT.lt_tupInts ⟨_,g1,g2,_,g3⟩ ⟨_,k1,k2,_,k3⟩ (nR g4 h1) (nR k4 h2) hu k)
 .cases h
theorem OP{b fin c:Bool}{Q:Bool->Shared->Prop}(hu:A.units+64<cLine)(k:Q c s):∀(xs ys:List PyData)(us ws:List Value)(as bs:List Addr)(i:Nat),ReadsAll s.heap us xs as->ReadsAll s.heap ws ys bs->xs.all SeqAt.shaped=true->ys.all SeqAt.shaped=true->
 cY xs ys=some c->fin=decide (us.length<ws.length)->((b&&i==0)=true->xs.head?.all isI=true/\ys.head?.all isI=true)->PySem.W.KatLex prog w A b fin Q (us.zip ws) i s
 |[],ys=>fun us ws as bs i r1 r2 s1 s2 h hf hb=>by
  cases r1
  have hl:ws.length=ys.length:=by
   clear k h hf hb s2
   induction r2 using ReadsAll.rec (motive_1:=fun _ _ _ _=>True)with
   |nil=>rfl
   |cons _ _ _ ih=>simp[ih]
   |_=>trivial
  rw[List.zip_nil_left];refine PySem.W.kat_nil ?_;have h:some (decide (0<ys.length))=some c:=h;cases h;rw[hf,hl];exact k
 |x::xs,[]=>fun us ws as bs i r1 r2 s1 s2 h hf hb=>by
  cases r2;rw[List.zip_nil_right];refine PySem.W.kat_nil ?_;cases h;rw[hf];simpa using k
 |x::xs,y::ys=>fun us ws as bs i r1 r2 s1 s2 h hf hb=>by
  cases r1 with
  |cons a1 a2=>
   cases r2 with
   |cons b1 b2=>
    rw[U5,B3]at s1 s2;rw[Y9];refine PySem.W.kat_cons ?_;refine SeqAt.eqAt_reads x y A s _ _ _ _ a1 b1 (O5 s1.1) (O5 s2.1) (SeqAt.room_of_shaped s1.1 hu) _ _ _ _ ?_;have h:(if PyData.eqv x y=true then cY xs ys else fL x y)=some c:=h;cases e:PyData.eqv x y with
    |true=>
     rw[e,A3 rfl]at h;refine PySem.W.kat_yes (OP hu k xs ys _ _ _ _ (i+1) a2 b2 s1.2 s2.2 h ?_ (fun z=>?_))
     .rw[hf];simp
     .simp at z
    |false=>
     rw[e,A7 A8]at h;refine PySem.W.kat_no (aCu (by omega) a1 b1 h (fun z=>?_) k);have:=hb z;simpa using this
end
open PySem PySem.W PyProof.Rows
noncomputable def SV{α:Type}(lt:Nat->Nat->Bool):KasT α->α
 |.ret a=>a
 |.ask i j k=>SV lt (k (lt i j))
noncomputable def KA{α:Type}(n:Nat):KasT α->(α->Prop)->Prop
 |.ret a,Q=>Q a
 |.ask i j k,Q=>i<n/\j<n/\∀b,KA n (k b) Q
section
variable{n:Nat}
theorem KA.bind{α β:Type}{f:α->KasT β}{Q:β->Prop}:∀{t:KasT α},KA n t (fun a=>KA n (f a) Q)->KA n (t.bind f) Q
 |.ret _=>fun h=>h
 |.ask _ _ _=>fun h=>⟨h.1,h.2.1,fun b=>KA.bind (h.2.2 b)⟩
theorem KA.ks{α:Type}{lt:Nat->Nat->Bool}{Q:α->Prop}:∀{t:KasT α},KA n t Q->KS lt n t (fun a=>a=SV lt t/\Q a)
 |.ret _=>fun h=>⟨rfl,h⟩
 |.ask i j _=>fun h=>⟨h.1,h.2.1,KA.ks (h.2.2 (lt i j))⟩
theorem KS.run{α:Type}{lt:Nat->Nat->Bool}{Q:α->Prop}:∀{t:KasT α},KS lt n t Q->Q (SV lt t)
 |.ret _=>fun h=>h
 |.ask i j k=>fun h=>KS.run (t:=k (lt i j)) h.2.2
theorem LV{p:Array Nat}(hp:Inv2 n p)(h0:0<n){Q:Nat->Prop}(q:∀r,Q r):∀(f m:Nat),KA n (kas_asc p f m) Q
 |0=>fun m=>by rw[kas_asc.eq_def];exact q m
 |f+1=>fun m=>by
  rw[kas_asc.eq_def];refine⟨hp.ent h0 _,hp.ent h0 _,fun b=>?_⟩;cases b with
  |true=>exact q m
  |false=>exact LV hp h0 q f (m+1)
theorem yP(h0:0<n){Q:Array Nat×Nat×Nat->Prop}(k:∀p m q,Inv2 n p->Q (p,m,q)):∀(f:Nat)(p:Array Nat)(m q:Nat),Inv2 n p->KA n (kas_desc f p m q) Q
 |0=>fun p m q hp=>by rw[kas_desc.eq_def];exact k p m q hp
 |f+1=>fun p m q hp=>by
  rw[kas_desc.eq_def];refine⟨hp.ent h0 _,hp.ent h0 _,fun b=>?_⟩;cases b with
  |true=>
   dsimp only;rw[A3 rfl];by_cases hq:q > 0
   .rw[A3 hq];exact yP h0 k f _ _ _ (gT hp _ _)
   .rw[A7 hq];exact yP h0 k f _ _ _ hp
  |false=>
   dsimp only;rw[A7 A8];refine⟨hp.ent h0 _,hp.ent h0 _,fun b=>?_⟩;cases b with
   |true=>exact k p m q hp
   |false=>exact yP h0 k f _ _ _ hp
theorem LC(h0:0<n){p:Array Nat}{m:Nat}(hp:Inv2 n p):KA n (kas_tail3 m n p) (fun r=>Inv2 n r.2):=by
 rw[kas_tail3.eq_def];exact KA.bind (LV (gT hp 0 m) h0 (fun r=>gT hp 0 m) _ _)
theorem xD(h0:0<n){p:Array Nat}{m:Nat}(hp:Inv2 n p):KA n (kas_descPart m n p) (fun r=>Inv2 n r.2):=by
 rw[kas_descPart.eq_def];refine KA.bind (yP h0 (fun p' m' q' a=>?_) _ _ _ _ hp);show KA n (if q' > 0 then kas_tail3 m' n (kas_rev p' (m'-(q'+1)) m')else kas_tail3 m' n p') _;by_cases hq:q' > 0
 .rw[A3 hq];exact LC h0 (gT a _ _)
 .rw[A7 hq];exact LC h0 a
theorem aAE(h0:0<n){p:Array Nat}(hp:Inv2 n p):KA n (kas_count n p) (fun r=>Inv2 n r.2):=by
 rw[kas_count.eq_def];refine KA.bind (LV hp h0 (fun r=>?_) _ _);by_cases e:(r==n)=true
 .rw[A3 e];exact hp
 .rw[A7 e];by_cases g:r > 1
  .rw[A3 g];refine⟨hp.ent h0 _,hp.ent h0 _,fun b=>?_⟩;cases b with
   |true=>exact hp
   |false=>exact xD h0 (gT hp _ _)
  .rw[A7 g];exact xD h0 hp
theorem AD(h0:0<n){p:Array Nat}(hp:Inv2 n p){k:Nat}{Q:Nat->Prop}(q:∀l,Q l):∀(f l r:Nat),KA n (kas_place p k f l r) Q
 |0=>fun l r=>by rw[kas_place.eq_def];exact q l
 |f+1=>fun l r=>by
  rw[kas_place.eq_def];show KA n (if l>=r then _ else _) Q;by_cases g:l>=r
  .rw[A3 g];exact q l
  .rw[A7 g];refine⟨hp.ent h0 _,hp.ent h0 _,fun b=>?_⟩;cases b with
   |true=>exact AD h0 hp q f _ _
   |false=>exact AD h0 hp q f _ _
theorem aAl(h0:0<n):∀(f:Nat)(p:Array Nat)(k:Nat),Inv2 n p->KA n (kas_bin f p k) (Inv2 n)
 |0=>fun p k hp=>by rw[kas_bin.eq_def];exact hp
 |f+1=>fun p k hp=>by
  rw[kas_bin.eq_def];exact KA.bind (AD h0 hp (fun l=>aAl h0 f _ (k+1) ((bubble_perm p k (k-l)).trans hp)) k 0 k)
theorem FT(h0:0<n):KA n (kas_sort n) (Inv2 n):=by
 unfold kas_sort;have:=aAE h0 (p:=(List.range n).toArray) (Array.Perm.refl _);refine KA.bind ?_
 have mono:∀{α:Type}{Q R:α->Prop}(m:∀a,Q a->R a)(t:KasT α),KA n t Q->KA n t R:=by
  intro α Q R m t
  induction t with
  |ret a=>exact m a
  |ask i j k ih=>exact fun h=>⟨h.1,h.2.1,fun b=>ih b (h.2.2 b)⟩
 refine mono (fun r a=>?_) _ this;by_cases e:r.fst<n
 .rw[A3 e];exact aAl h0 _ _ _ a
 .rw[A7 e];exact a
noncomputable def eG(lt:Nat->Nat->Bool)(n:Nat):List Nat:=(SV lt (kas_sort n)).toList
theorem lX(lt:Nat->Nat->Bool)(h0:0<n):(eG lt n).Perm (List.range n):=by
 have:=KS.run (KA.ks (lt:=lt) (FT h0));simpa[eG]using Array.perm_iff_toList_perm.mp this.2
end
end L2
namespace L2
variable{H:Hp}{K:Fg}{W:Wd}{σ:St}
open PySem PySem.Spec PyProof.Rows
mutual
noncomputable def fI:PyData->Bool
 |.int _=>true
 |.tuple xs=>dF xs
 |_=>false
noncomputable def dF:List PyData->Bool
 |[]=>true
 |x::r=>fI x&&dF r
end
mutual
theorem rk{h h':Heap}(k:∀b o vs n,h.get? b=some o->o.data=.seq vs n->h'.get? b=some o):∀(d:PyData)(v:Value)(as:List Addr),fI d=true->Reads h v d as->Reads h' v d as
 |.int n=>fun _ _ _ r=>by cases r;exact .int _ _
 |.tuple xs=>fun _ _ e r=>by
  cases r with
  |tuple a b c d=>exact .tuple (k _ _ _ _ a c) b c (OX k xs _ _ (by unfold fI at e;exact e) d)
 |.none=>fun _ _ e _=>by unfold fI at e;cases e
 |.bool _=>fun _ _ e _=>by unfold fI at e;cases e
 |.str _=>fun _ _ e _=>by unfold fI at e;cases e
 |.list _=>fun _ _ e _=>by unfold fI at e;cases e
 |.dict _=>fun _ _ e _=>by unfold fI at e;cases e
theorem OX{h h':Heap}(k:∀b o vs n,h.get? b=some o->o.data=.seq vs n->h'.get? b=some o):∀(ds:List PyData)(vs:List Value)(as:List Addr),dF ds=true->ReadsAll h vs ds as->ReadsAll h' vs ds as
 |[]=>fun _ _ _ r=>by cases r;exact .nil
 |d::ds=>fun _ _ e r=>by
  cases r with
  |cons a b=>
   unfold dF at e;rw[B3]at e;exact .cons (rk k d _ _ e.1 a) (OX k ds _ _ e.2 b)
end
theorem ReadsAll.at{h:Heap}:∀{ds:List PyData}{vs:List Value}{as:List Addr}(i:Nat),ReadsAll h vs ds as->i<ds.length->∃bs,Reads h (vs.getD i .none) (ds.getD i .none) bs
 |[],_,_,i=>fun _ hi=>absurd hi (Nat.not_lt_zero _)
 |d::ds,_,_,0=>fun r _=>by cases r with|cons a b=>exact⟨_,a⟩
 |d::ds,_,_,i+1=>fun r hi=>by
  cases r with
  |cons a b=>
   obtain⟨bs,x⟩:=ReadsAll.at i b (Nat.lt_of_succ_lt_succ hi);exact⟨bs,x⟩
theorem ReadsAll.len{h:Heap}:∀{ds:List PyData}{vs:List Value}{as:List Addr},ReadsAll h vs ds as->vs.length=ds.length
 |[],_,_=>fun r=>by cases r;rfl
 |d::ds,_,_=>fun r=>by
  cases r with
  |cons a b=>simp[ReadsAll.len b]
section
variable{prog:Program}{w:World}{A:Around}{E:Value->Shared->Prop}{s:Shared}
theorem XZ{b c:Bool}{p q:Value}{xs ys:List PyData}{as bs:List Addr}{Q:Bool->Shared->Prop}(hu:A.units+64<cLine)(r1:Reads s.heap p (.tuple xs) as)(r2:Reads s.heap q (.tuple ys) bs)
 (s1:xs.all SeqAt.shaped=true) (s2:ys.all SeqAt.shaped=true) (h:cY xs ys=some c) (hb:b=true->xs.head?.all isI=true/\ys.head?.all isI=true) (k:Q c s):wpAny (model prog w) A (keyLt' (tuples' b) p q) Q E s:=by
 cases r1 with
 |tuple a1 a2 a3 a4=>
  cases r2 with
  |tuple b1 b2 b3 b4=>
   refine PySem.W.kat_lt a1 a3 b1 b3 (OP hu k xs ys _ _ _ _ 0 a4 b4 s1 s2 h (by simp) (fun z=>hb ?_));simpa using z
noncomputable def jL(rows:List (List PyData)):Bool:=rows.all fun r=>match r with
 |.int _::_=>true
 |_=>false
noncomputable def qI(rows:List (List PyData)):Bool:=rows.all fun r=>match r with
 |.tuple _::_=>true
 |_=>false
theorem aFR{M:Model}{h:Heap}(n:Int)(t:Tok):PySem.W.Looks M h (typeOf (.int n t)) (.type "int"):=fun A Q E s _ q=>by
 show wpAny M A (pure _) Q E s;exact B5 q
theorem firstsI{h:Heap}:∀{rows:List (List PyData)}{vs:List Value}{as:List Addr},ReadsAll h vs (rows.map .tuple) as->jL rows=true->∃fs,PySem.W.KatTups h vs fs/\fs.length=rows.length/\∀v∈fs,∃n t,v=.int n t
 |[],_,_=>fun r _=>by cases r;exact⟨[],.nil,rfl,fun v hv=>nomatch hv⟩
 |x::rows,_,_=>fun r e=>by
  unfold jL at e;rw[U5,B3]at e;cases r with
  |cons a b=>
   obtain⟨fs,h1,h2,h3⟩:=firstsI b (by unfold jL;exact e.2);cases x with
   |nil=>exact absurd e.1 (by decide)
   |cons d ds=>
    cases d with
    |int n=>
     cases a with
     |tuple g1 g2 g3 g4=>
      rename_i o vs n' ;generalize hv:vs.toList=l at g4;cases g4 with
      |cons q1 q2=>
       cases q1 with
       |int _ t=>
        refine⟨.int n t::fs,.cons g1 g2 g3 (f:=.int n t) ?_ h1,by simp[h2],?_⟩
        .rw[<- U6,hv];rfl
        .intro v hv';rcases List.mem_cons.mp hv' with z|z
         .exact⟨_,_,z⟩
         .exact h3 v z
    |_=>exact absurd e.1 (by intro z;cases z)
end
section
variable{prog:Program}{w:World}{A:Around}{E:Value->Shared->Prop}{s:Shared}
theorem aEv{M:Model}{h:Heap}{a:Addr}{o:Obj}(g:h.get? a=some o)(c:o.cls=.type "tuple"):PySem.W.Looks M h (typeOf (.ref a)) (.type "tuple"):=fun A Q E s k q=>wpAny_typeOf (show s.TypeIs (.ref a) "tuple" from⟨o,k _ _ g,c⟩) q
theorem QK{h:Heap}:∀{rows:List (List PyData)}{vs:List Value}{as:List Addr},ReadsAll h vs (rows.map .tuple) as->qI rows=true->∃fs,PySem.W.KatTups h vs fs/\fs.length=rows.length/\∀v∈fs,∃a o,v=.ref a/\h.get? a=some o/\o.cls=.type "tuple"
 |[],_,_=>fun r _=>by cases r;exact⟨[],.nil,rfl,fun v hv=>nomatch hv⟩
 |x::rows,_,_=>fun r e=>by
  unfold qI at e;rw[U5,B3]at e;cases r with
  |cons a b=>
   obtain⟨fs,h1,h2,h3⟩:=QK b (by unfold qI;exact e.2);cases x with
   |nil=>exact absurd e.1 (by decide)
   |cons d ds=>
    cases d with
    |tuple ys=>
     cases a with
     |tuple g1 g2 g3 g4=>
      rename_i o vs n';generalize hv:vs.toList=l at g4;cases g4 with
      |cons q1 q2=>
       cases q1 with
       |@tuple a' _ _ _ _ _ k1 k2 k3 k4=>
        refine⟨.ref a'::fs,.cons g1 g2 g3 (f:=.ref a') ?_ h1,by simp[h2],?_⟩
        .rw[<- U6,hv];rfl
        .intro v hv';rcases List.mem_cons.mp hv' with z|z
         .exact⟨_,_,z,k1,k2⟩
         .exact h3 v z
    |_=>exact absurd e.1 (by intro z;cases z)
theorem EJ{M:Model}{rows:List (List PyData)}{vs:List Value}{as:List Addr}{Q:SortKind->Shared->Prop}(r:ReadsAll s.heap vs (rows.map .tuple) as)(h0:0<rows.length)(hk:jL rows=true\/qI rows=true)(q:Q (tuples' (jL rows)) s):wpAny M A (keyKind' vs.toArray) Q E s:=by
 rcases hk with hk|hk
 .obtain⟨fs,h1,h2,h3⟩:=firstsI r hk;rw[hk]at q;refine PySem.W.kat_kind (T:=.type "int") h1 (by omega) (fun v hv=>?_) (by decide) q;obtain⟨n,t,rfl⟩:=h3 v hv;exact aFR n t
 .obtain⟨fs,h1,h2,h3⟩:=QK r hk
  have e:jL rows=false:=by
   cases rows with
   |nil=>cases h0
   |cons x r=>
    unfold qI at hk;rw[U5,B3]at hk;cases x with
    |nil=>rfl
    |cons d ds=>cases d<;>first|rfl|exact absurd hk.1 (by intro z;cases z)
  rw[e]at q;refine PySem.W.kat_kind (T:=.type "tuple") h1 (by omega) (fun v hv=>?_) (by decide) q;obtain⟨a,o,rfl,g,c⟩:=h3 v hv;exact aEv g c
end
section
variable{X:Cx}{pins:List (Addr×Obj)}{σ:St}{H:Hp}{s:Shared}{h':Heap}
theorem eL.there{P:Program}{w:World}{h:Heap}{a:Addr}{o:HO}(x:eL P w H h a o):∃u,h.get? a=some u:=by
 induction o with
 |lst xs=>obtain⟨_,_,_,_,e⟩:=x;exact⟨_,e⟩
 |tup xs=>obtain⟨_,_,_,_,e,_⟩:=x;exact⟨_,e⟩
 |dK kvs=>obtain⟨_,_,_,_,o,_,_,e,_⟩:=x;exact⟨_,e⟩
 |dT kvs=>obtain⟨_,_,_,_,o,_,_,e,_⟩:=x;exact⟨_,e⟩
 |set S n=>obtain⟨o,_,_,_,e,_⟩:=x;exact⟨_,e⟩
 |ins C dx fs=>obtain⟨_,_,_,e,_⟩:=x;exact⟨_,e⟩
 |own y=>exact x
 |xd fs=>obtain⟨_,⟨_,_,_,e,_⟩,_⟩:=x;exact⟨_,e⟩
 |rng lo hi=>obtain⟨_,_,_,e⟩:=x;exact⟨_,e⟩
 |frz o u=>exact⟨_,x.1⟩
 |tbl ps=>exact⟨_,x⟩
 |met f x'=>exact⟨_,x⟩
 |ext φ=>exact x.2.1
theorem HOk.none{P:Program}{w:World}{h:Heap}{a:Addr}(x:HOk P w H h)(e:h.get? a=none):H a=none:=by
 cases q:H a with
 |none=>rfl
 |some o=>
  obtain⟨u,z⟩:=(x a o q).there;rw[e]at z;cases z
theorem Inv.laidL{a:Addr}{o:HO}(I:Inv X pins σ H s)(k:∀b u,b≠X.env.locals->s.heap.get? b=some u->h'.get? b=some u)(ns:∀m,s.heap.Ns X.env.locals m->h'.Ns X.env.locals m)(hp:s.heap.get? a=none)(new:eL X.prog X.w (upd H a o) h' a o):
 Inv X pins σ (upd H a o) { s with heap:=h' }:=by
 have hn:=I.hok.none hp;have nt:∀b u,H b=some u->b≠X.env.locals:=fun b u e z=>by rw[z,I.free]at e;cases e
 refine I.step (g':=s.gens) (t':=s.toks) (d':=s.drawn) (ch:=[]) (fun _ z=>nomatch z) (fun b o h1 _ _ e _=>k b o h1 e) (fun b o h1 _ _ e _=>⟨o.slots,k b o h1 e⟩) (fun b o _ e n=>?_) (fun b o _ e=>?_) (fun b xs e=>?_) (fun b o u e=>?_) (fun b ps e=>⟨#[],?_⟩) ns ?_ I.bare
 .rw[aV (fun z=>by subst z;rw[hp]at e;cases e)];exact n
 .by_cases z:b=X.env.locals
  .subst z;obtain⟨m,hm,_⟩:=I.loc;obtain⟨o',_,_,q,_⟩:=ns m hm;exact⟨o',q⟩
  .exact⟨o,k b o z e⟩
 .rw[aV (aU e hn)];exact e
 .rw[aV (aU e hn)];exact e
 .rw[aV (aU e hn)];simpa using e
 .intro b u e;by_cases hb:b=a
  .subst hb;rw[aY]at e;cases e;exact new
  .rw[aV hb]at e;refine(I.hok b u e).stay (fun c v hc q=>k c v ?_ q) (fun c q=>by rw[aV (aU q hn)];exact q) fun c xs q=>by rw[aV (aU q hn)];exact q
   rcases hc with z|z
   .rw[z];exact nt b _ e
   .exact nt c _ z
theorem FV{h:Heap}{L:Addr}{m m':Str->Option Value}(a:h.Ns L m)(b:h.Ns L m'):m=m':=by
 obtain⟨o,es,ep,h1,h2,_,h3⟩:=a;obtain⟨o',es',ep',k1,k2,_,k3⟩:=b;rw[h1]at k1;cases k1;rw[h2]at k2;cases k2;funext x;rw[<- h3 x,k3 x]
noncomputable def fM(rows:List (List PyData))(i j:Nat):Bool:=(cY (rows.getD i []) (rows.getD j [])).getD false
noncomputable def MC(K:Fg):List V->Hp->VK->Prop:=fun xs H Q=>∃(p:Addr)(vs:List V)(rows:List (List PyData)),xs=[.ref p]/\SqL K H p vs/\aL K H (rows.map .tuple) vs/\2<=rows.length/\rows.length<64 /\
 (∀r∈rows,r.all SeqAt.shaped=true/\dF r=true)/\(jL rows=true\/qI rows=true)/\(∀i j,i<rows.length->j<rows.length->(cY (rows.getD i []) (rows.getD j [])).isSome=true) /\
 ∀l,H l=none->Q (.ref l) (upd H l (.lst ((eG (fM rows) rows.length).map fun i=>vs.getD i .non)))
theorem wU{vs:List V}{us:List Value}(r:bE vs us):∀ps:List Nat,bE (ps.map fun i=>vs.getD i .non) (ps.map fun i=>us.getD i .none)
 |[]=>.nil
 |p::ps=>by
  refine .cons ?_ (wU r ps)
  have go:∀{vs:List V}{us:List Value}(i:Nat),bE vs us->RelV (vs.getD i .non) (us.getD i .none):=by
   intro vs us i r
   induction r generalizing i with
   |nil=>exact rfl
   |cons a b ih=>cases i with
    |zero=>exact a
    |succ i=>exact ih i
  exact go p r
theorem HS(hu:X.A.in1.in1.units+64<cLine):fV X (.builtin "sorted") (MC X.K):=by
 intro pins s σ H xs us Q I r h;obtain⟨p,vs,rows,rfl,hp,hrep,h2,h64,hsh,hknd,hlt,q⟩:=h;obtain⟨u,rfl,ru⟩:=vals1 r;cases ru;obtain⟨its,rv,pl,hz⟩:=I.list hp;obtain⟨as,hr⟩:=aL.reads I _ vs its hrep rv;have hlen:its.length=rows.length:=by rw[ReadsAll.len hr,A2]
 obtain⟨m,F⟩:=I.fr;have N:News X.base X.env.locals s.heap (iV X.base s.heap X.env.locals):=yW;refine PySem.W.kat_sorted F N pl.isList (by omega) (by omega) fun D e1 h' F' N' hD=>?_
 have kp:∀(h1:Heap),Fr X.base X.env.locals h1 m->(∀q∈iV X.base s.heap X.env.locals,h1.get? q.1=some q.2)->∀b o,b≠X.env.locals->s.heap.get? b=some o->h1.get? b=some o:=fun h1 G1 M1 b o hb e=>by
  cases z:X.base.get? b with
  |some v=>
   have:=I.bk b v z;rw[e]at this;cases this;exact G1.keep b _ z
  |none=>exact M1 (b,o) (hG hb z e)
 have k':=kp h' F' (fun q hq=>(N' q (A9 _ hq)).1)
 have hsz:s.heap.get? D=none:=by
  have hN:=N' _ B0;cases e:s.heap.get? D with
  |none=>rfl
  |some o=>exact absurd (hD (D,o) (hG hN.2.1 hN.2.2 e)) (F8 _)
 have seqL:∀b o vs n,s.heap.get? b=some o->o.data=.seq vs n->b≠X.env.locals:=fun b o vs n e d z=>by
  obtain⟨o',es,ep,x1,x2,_⟩:=F.ns;subst z;rw[e]at x1;cases x1;rw[d]at x2;cases x2
 have onl:dF (rows.map .tuple)=true:=by
  clear hrep hr hlen q hknd hlt h2 h64
  induction rows with
  |nil=>rfl
  |cons x r ih=>
   show(dF x&&dF (r.map .tuple))=true;rw[(hsh x B0).2,ih fun y hy=>hsh y (A9 _ hy)];rfl
 have hr':ReadsAll h' its (rows.map .tuple) as:=OX (fun b o vs n e d=>k' b o (seqL b o vs n e d) e) _ _ _ onl hr;refine EJ (s:={ s with heap:=h' }) hr' (by omega) hknd ?_;rw[hlen];refine KS.wp (lt:=fM rows) (n:=rows.length) (fun i j C hi hj c=>?_) (fun p hp'=>?_) ((FT (by omega)).ks (lt:=fM rows))
 .have at_:∀i,i<rows.length->∃bs,Reads h' (its.getD i .none) (.tuple (rows.getD i [])) bs:=fun i hi=>by
   obtain⟨bs,x⟩:=ReadsAll.at i hr' (by simpa using hi)
   have:(rows.map PyData.tuple).getD i .none=.tuple (rows.getD i []):=by
    rw[B6,C8,B6,B8 hi];rfl
   rw[this]at x;exact⟨bs,x⟩
  obtain⟨b1,r1⟩:=at_ i hi;obtain⟨b2,r2⟩:=at_ j hj
  have mem:∀i,i<rows.length->rows.getD i []∈rows:=fun i hi=>by
   rw[B6,B8 hi];exact S1 hi
  have hd:jL rows=true->∀r∈rows,r.head?.all isI=true:=fun z r hr=>by
   unfold jL at z;have:=List.all_eq_true.mp z r hr;cases r with
   |nil=>rfl
   |cons d ds=>cases d<;>first|rfl|exact absurd this (by intro z;cases z)
  obtain⟨c0,hc0⟩:=Option.isSome_iff_exists.mp (hlt i j hi hj);have hc:fM rows i j=c0:=by unfold fM;rw[hc0];rfl
  rw[hc]at c;exact XZ (s:={ s with heap:=h' }) hu r1 r2 (hsh _ (mem i hi)).1 (hsh _ (mem j hj)).1 hc0 (fun z=>⟨hd z _ (mem i hi),hd z _ (mem j hj)⟩) c
 .obtain⟨e,_⟩:=hp';subst e;refine PySem.W.KasFin.intro F' N' (.head fun q hq=>C7 (hD q hq)) fun h'' c F'' N''=>?_;have k'':=kp h'' F'' (fun q hq=>(N'' q (A9 _ hq)).1);refine⟨.ref D,upd H D (.lst ((eG (fM rows) rows.length).map fun i=>vs.getD i .non)),?_,rfl,q D (I.hok.none hsz)⟩;refine I.laidL k'' (fun m' hm'=>?_) hsz ⟨?_,_,c,wU rv _,(N'' _ B0).1⟩
  .rw[<- FV F.ns hm'];exact F''.ns
  .rw[A2,(lX (fM rows) (by omega)).length_eq,U8];have:64<=sizeLine:=by decide
   omega
end
noncomputable def rowsOf:List PyData->Option (List (List PyData))
 |[]=>some []
 |.tuple r::ds=>(rowsOf ds).bind fun rs=>some (r::rs)
 |_=>none
theorem rZ:∀{ds:List PyData}{rows:List (List PyData)},rowsOf ds=some rows->ds=rows.map .tuple
 |[],_=>fun h=>by cases h;rfl
 |d::ds,rows=>fun h=>by
  cases d with
  |tuple r=>
   have h:(rowsOf ds).bind (fun rs=>some (r::rs))=some rows:=h;obtain⟨rs,h1,h2⟩:=Option.bind_eq_some_iff.mp h;cases h2;rw[rZ h1];rfl
  |_=>cases h
noncomputable def sortable(rows:List (List PyData)):Bool:=decide (2<=rows.length)&&decide (rows.length<64)&&rows.all (fun r=>r.all SeqAt.shaped&&dF r)&&(jL rows || qI rows)&&(List.range rows.length).all fun i=>(List.range rows.length).all fun j=>(cY (rows.getD i []) (rows.getD j [])).isSome
noncomputable def DV(rows:List (List PyData)):List PyData:=(eG (fM rows) rows.length).map fun i=>.tuple (rows.getD i [])
noncomputable def yS:FN:=fun xs M=>match xs with
 |[.d (.list ds)]=>(rowsOf ds).bind fun rows=>if sortable rows=true then some (.d (.list (DV rows)),M)else none
 |[.c i]=>match M[i]? with
  |some (.lst ys)=>(mW ys).bind fun ds=>(rowsOf ds).bind fun rows=>if sortable rows=true then some (.d (.list (DV rows)),M)else none
  |_=>none
 |_=>none
theorem jB{rows:List (List PyData)}(h:sortable rows=true):2<=rows.length/\rows.length<64/\(∀r∈rows,r.all SeqAt.shaped=true/\dF r=true)/\(jL rows=true\/qI rows=true)/\(∀i j,i<rows.length->j<rows.length->(cY (rows.getD i []) (rows.getD j [])).isSome=true):=by
 unfold sortable at h;rw[B3,B3,B3,B3,Bool.or_eq_true]at h;obtain⟨⟨⟨⟨h1,h2⟩,h3⟩,h4⟩,h5⟩:=h;refine⟨D6 h1,D6 h2,fun r hr=>?_,h4,fun i j hi hj=>?_⟩
 .have:=List.all_eq_true.mp h3 r hr
  rwa [B3]at this
 .exact List.all_eq_true.mp (List.all_eq_true.mp h5 i (List.mem_range.mpr hi)) j (List.mem_range.mpr hj)
section
variable{K:Fg}
theorem aL.len{H:Hp}:∀{ds:List PyData}{vs:List V},aL K H ds vs->vs.length=ds.length
 |[],_=>fun h=>by
  have h:_=[]:=h;rw[h];rfl
 |d::ds,_=>fun h=>by
  obtain⟨v,r,rfl,_,h2⟩:=(show ∃v r,_=v::r/\Rep K H d v/\aL K H ds r from h);simp[aL.len h2]
theorem vA{H:Hp}{rows:List (List PyData)}{us:List V}(r:aL K H (rows.map .tuple) us):∀ps:List Nat,(∀i∈ps,i<rows.length)->aL K H (ps.map fun i=>.tuple (rows.getD i [])) (ps.map fun i=>us.getD i .non)
 |[]=>fun _=>rfl
 |p::ps=>fun hp=>by
  refine⟨_,_,rfl,?_,vA r ps fun i hi=>hp i (A9 _ hi)⟩;have hi:=hp p B0;have hl:=aL.len r;rw[A2]at hl
  have hu:us[p]?=some (us.getD p .non):=by
   rw[B6,B8 (by omega)];rfl
  obtain⟨d,h1,h2⟩:=aL.get r hu;rw[C8,B8 hi]at h1;cases h1;have e:rows.getD p []=rows[p]:=by rw[B6,B8 hi];rfl
  show Rep K H (.tuple (rows.getD p [])) (us.getD p .non);rw[e];exact h2
theorem XM{lt:Nat->Nat->Bool}{n:Nat}(h0:0<n):∀i∈eG lt n,i<n:=fun i hi=>List.mem_range.mp ((lX lt h0).mem_iff.mp hi)
theorem RW:PN K (MC K) yS:=by
 intro xs M z M' h W H vs Q G r k;unfold yS at h;split at h
 .rename_i ds;obtain⟨rows,h1,h⟩:=aH h;by_cases hs:sortable rows=true
  .rw[A3 hs]at h;cases h;obtain⟨a1,a2,a3,a4,a5⟩:=jB hs;rcases r with _|⟨r1,_|_⟩;obtain⟨p,us,rfl,hq,hr⟩:=(show ∃a us,_=V.ref a/\SqL K W.F a us/\aL K W.F ds us from r1);rw[rZ h1]at hr;refine⟨p,us,rows,rfl,G.fh.seq hq,aL.same G.fh _ _ hr,a1,a2,a3,a4,a5,fun l hl=>?_⟩;obtain⟨e2,G2⟩:=G.lay (o:=.lst ((eG (fM rows) rows.length).map fun i=>us.getD i .non)) hl;exact k _ _ _ e2 G2 ⟨l,_,rfl,SqL.of aY,vA (aL.same e2.ff _ _ hr) _ (XM (by omega))⟩
  .rw[A7 hs]at h;cases h
 .rename_i i;split at h
  .rename_i ys hy;obtain⟨ds,h0,h⟩:=aH h;obtain⟨rows,h1,h⟩:=aH h;by_cases hs:sortable rows=true
   .rw[A3 hs]at h;cases h;obtain⟨a1,a2,a3,a4,a5⟩:=jB hs;rcases r with _|⟨r1,_|_⟩;obtain⟨us,hv,hr⟩:=G.lstAt hy;have hr:=fQ h0 hr;rw[rZ h1]at hr;rw[r1.2];refine⟨_,us,rows,rfl,SqL.of hv,aL.same G.fh _ _ hr,a1,a2,a3,a4,a5,fun l hl=>?_⟩;obtain⟨e2,G2⟩:=G.lay (o:=.lst ((eG (fM rows) rows.length).map fun i=>us.getD i .non)) hl;exact k _ _ _ e2 G2 ⟨l,_,rfl,SqL.of aY,vA (aL.same e2.ff _ _ hr) _ (XM (by omega))⟩
   .rw[A7 hs]at h;cases h
  .cases h
 .cases h
end
theorem eE.units2{k:Nat}{A:Around}(r:eE k A):A.in1.in1.units+64<cLine:=by have:=r.un;show A.units+1+1+64<_;omega
section
variable{prog:Program}{w:World}{A:Around}{E:Value->Shared->Prop}{s:Shared}
theorem pL{a:Addr}{vs:List Value}{n:Nat}{P:PySem.Fin->Shared->Prop}(g:s.heap.get? a=some (seqObj "list" vs.toArray n))(h2:vs.length<2)
 (k:P (.done (.ret .none)) { s with heap:=sortedHeap s.heap a vs vs.toArray }):wpAny (model prog w) A (Builtin.«list.sort» ⟨[.ref a],[]⟩) P E s:=by
 rw[list_sort_plain];have hz:vs.toArray.size<=sizeLine:=by rw[C5,E4];omega
 refine A1 (listItems_at g rfl ?_);refine A1 (listUpdate_at g rfl ?_ hz (by simp));have g1:=A0b g (fun _=>#[]);have hlt:=B9 g1;refine A1 (seqEpoch_at g1 rfl ?_);refine A1 (wpAny_newTuple ?_ (by simpa using hz));refine A1 (wpAny_newList ?_);refine J1 ?_;have hs:vs.toArray.size<2:=by simpa using h2
 dsimp only;rw[A3 hs,A3 hs];refine A1 (B5 ?_);refine A1 ?_;show wpAny (model prog w) A (pure ((),SortSt.mk' general' (vs.toArray.zip vs.toArray) #[] 7 none)) _ E _;refine B5 ?_;dsimp only;have g2:=A4 { cls:=.type "tuple",data:=.seq vs.toArray.toList.toArray } g1;have g3:=A4 { cls:=.type "list",data:=.seq ([]:List Value).toArray } g2;refine A1 (seqEpoch_at g3 rfl ?_)
 have hm:Array.map (fun x=>x.snd) (arrOf (SortSt.mk' general' (vs.toArray.zip vs.toArray) #[] 7 none))=vs.toArray:=by
  show Array.map (fun x=>x.snd) (vs.toArray.zip vs.toArray)=vs.toArray
  apply Array.ext
  .simp
  .intro i h1 h2;simp
 rw[hm];refine A1 (listUpdate_at g3 rfl ?_ (by simp) (by omega));rw[A7 (by simp)];exact B5 k
theorem FA{l:Addr}{vs:List Value}{Q:Value->Shared->Prop}(g:s.heap.IsList l vs.toArray)(h2:vs.length<2)
 (k:∀(h':Heap)(D:Addr),(∀b o,s.heap.get? b=some o->h'.get? b=some o)->s.heap.objs.size<=D->(∃c,h'.get? D=some (seqObj "list" vs.toArray c))->Q (.ref D) { s with heap:=h' }):wpAny (model prog w) A (call (.builtin "sorted") [.ref l]) Q E s:=by
 refine Calls.call_function_entry kind_sorted plain_sorted entry_sorted (args_sorted1 _) ?_;have hz:vs.length<=sizeLine:=by rw[E4];omega
 unfold Builtin.sorted;refine A1 (show wpAny _ _ (pure ()) _ _ _ from B5 ?_);refine A1 (collect_list g ?_ hz);refine A1 (wpAny_newList ?_ hz);generalize hh1:(s.heap.push (seqObj "list" #[] 0)).update s.heap.objs.size (Obj.mapSeq fun x=>x++vs.toArray)=h1
 have k1:∀b o,s.heap.get? b=some o->h1.get? b=some o:=fun b o e=>by
  rw[<- hh1,Z2 _ _ _ _ (C7 (B9 e))];exact A4 _ e
 have sz1:s.heap.objs.size<=h1.objs.size:=by
  have e1:(s.heap.push (seqObj "list" #[] 0)).get? s.heap.objs.size=some (seqObj "list" #[] 0):=D1 _ rfl;have e2:=A0b e1 (fun x=>x++vs.toArray);rw[hh1]at e2;exact Z3 (B9 e2)
 refine A1 (J1 ?_);have gD:(h1.push { cls:=.type "list",data:=.seq vs.toArray }).get? h1.objs.size=some (seqObj "list" vs.toArray 0):=D1 _ rfl;refine S5 slot_list_sort ⟨_,gD,rfl⟩ entry_list_sort (pL gD h2 ⟨_,rfl,?_⟩) (args_list_sort _);refine B5 ⟨_,rfl,k _ _ (fun b o e=>?_) sz1 ?_⟩
 .have hb:b≠h1.objs.size:=C7 (B9 (k1 b o e));unfold sortedHeap;rw[Z2 _ _ _ _ hb];refine A4 _ (A4 _ ?_);rw[Z2 _ _ _ _ hb];exact A4 _ (k1 b o e)
 .unfold sortedHeap;have g1:=A0b gD (fun _=>#[]);have g2:=A4 (seqObj "tuple" vs.toArray 0) g1;have g3:=A4 (seqObj "list" #[] 0) g2;exact⟨_,A0b g3 (fun _=>vs.toArray)⟩
end
noncomputable def NR(K:Fg):List V->Hp->VK->Prop:=fun xs H Q=>∃(p:Addr)(vs:List V),xs=[.ref p]/\SqL K H p vs/\vs.length<2/\∀l,H l=none->Q (.ref l) (upd H l (.lst vs))
theorem FZ{X:Cx}:fV X (.builtin "sorted") (NR X.K):=by
 intro pins s σ H xs us Q I r h;obtain⟨p,vs,rfl,hp,h2,q⟩:=h;obtain⟨u,rfl,ru⟩:=vals1 r;cases ru;obtain⟨its,rv,pl,hz⟩:=I.list hp;have hl:=rv.length;refine FA pl.isList (by omega) fun h' D k hD ⟨c,g⟩=>?_;exact⟨.ref D,upd H D (.lst vs),I.laid (t':=s.toks) k hD ⟨hz,its,c,rv,g⟩,rfl,q D (I.hok.fresh hD)⟩
noncomputable def ZJ(K:Fg):List V->Hp->VK->Prop:=fun xs H Q=>MC K xs H Q\/NR K xs H Q
theorem aET{X:Cx}(h:X.K=K)(hu:X.A.in1.in1.units+64<cLine):fV X (.builtin "sorted") (ZJ K):=by
 subst h;intro pins s σ H xs us Q I r h;rcases h with h|h
 .exact HS hu pins s σ H xs us Q I r h
 .exact FZ pins s σ H xs us Q I r h
noncomputable def tY:FN:=fun xs M=>match xs with
 |[.d (.list ds)]=>if ds.length<2 then some (.d (.list ds),M)else none
 |[.c i]=>match M[i]? with
  |some (.lst ys)=>(mW ys).bind fun ds=>if ds.length<2 then some (.d (.list ds),M)else none
  |_=>none
 |_=>none
theorem UW:PN K (NR K) tY:=by
 intro xs M z M' h W H vs Q G r k;unfold tY at h;split at h
 .rename_i ds;by_cases hs:ds.length<2
  .rw[A3 hs]at h;cases h;rcases r with _|⟨r1,_|_⟩;obtain⟨p,us,rfl,hq,hr⟩:=(show ∃a us,_=V.ref a/\SqL K W.F a us/\aL K W.F ds us from r1);refine⟨p,us,rfl,G.fh.seq hq,by rw[aL.len hr];exact hs,fun l hl=>?_⟩;obtain⟨e2,G2⟩:=G.lay (o:=.lst us) hl;exact k _ _ _ e2 G2 ⟨l,_,rfl,SqL.of aY,aL.same e2.ff _ _ hr⟩
  .rw[A7 hs]at h;cases h
 .rename_i i;split at h
  .rename_i ys hy;obtain⟨ds,h0,h⟩:=aH h;by_cases hs:ds.length<2
   .rw[A3 hs]at h;cases h;rcases r with _|⟨r1,_|_⟩;obtain⟨us,hv,hr⟩:=G.lstAt hy;have hr:=fQ h0 hr;rw[r1.2];refine⟨_,us,rfl,SqL.of hv,by rw[aL.len hr];exact hs,fun l hl=>?_⟩;obtain⟨e2,G2⟩:=G.lay (o:=.lst us) hl;exact k _ _ _ e2 G2 ⟨l,_,rfl,SqL.of aY,aL.same e2.ff _ _ hr⟩
   .rw[A7 hs]at h;cases h
  .cases h
 .cases h
noncomputable def wK:FN:=fun xs M=>match tY xs M with
 |some r=>some r
 |none=>yS xs M
theorem ZS:PN K (ZJ K) wK:=by
 intro xs M z M' h W H vs Q G r k;unfold wK at h;split at h
 .rename_i q hq;cases h;exact .inr (UW xs M z M' hq W H vs Q G r k)
 .exact .inl (RW xs M z M' h W H vs Q G r k)
theorem aBp{ι:Type}{X:ι->Cx}(hK:∀i,(X i).K=K)(hu:∀i,(X i).A.in1.in1.units+64<cLine):QN K X (.builtin "sorted") wK:=⟨_,fun i=>aET (hK i) (hu i),ZS⟩
mutual
theorem FR:∀(x y:PyData),fI x=true->fI y=true->(PyData.eqv x y=true↔x=y)
 |.int a,.int b=>fun _ _=>by rw[PyData.eqv.eq_def];simp
 |.int a,.tuple b=>fun _ _=>by rw[PyData.eqv.eq_def];simp
 |.tuple a,.int b=>fun _ _=>by rw[PyData.eqv.eq_def];simp
 |.tuple xs,.tuple ys=>fun h k=>by
  unfold fI at h k;rw[PyData.eqv.eq_def];have:=aDM xs ys h k;simpa using this
 |.none,_=>fun h _=>by unfold fI at h;cases h
 |.bool _,_=>fun h _=>by unfold fI at h;cases h
 |.str _,_=>fun h _=>by unfold fI at h;cases h
 |.list _,_=>fun h _=>by unfold fI at h;cases h
 |.dict _,_=>fun h _=>by unfold fI at h;cases h
 |.int _,.none=>fun _ h=>by unfold fI at h;cases h
 |.int _,.bool _=>fun _ h=>by unfold fI at h;cases h
 |.int _,.str _=>fun _ h=>by unfold fI at h;cases h
 |.int _,.list _=>fun _ h=>by unfold fI at h;cases h
 |.int _,.dict _=>fun _ h=>by unfold fI at h;cases h
 |.tuple _,.none=>fun _ h=>by unfold fI at h;cases h
 |.tuple _,.bool _=>fun _ h=>by unfold fI at h;cases h
 |.tuple _,.str _=>fun _ h=>by unfold fI at h;cases h
 |.tuple _,.list _=>fun _ h=>by unfold fI at h;cases h
 |.tuple _,.dict _=>fun _ h=>by unfold fI at h;cases h
theorem aDM:∀(xs ys:List PyData),dF xs=true->dF ys=true->(PyData.eqvAll xs ys=true↔xs=ys)
 |[],[]=>fun _ _=>by rw[A0g];simp
 |[],_::_=>fun _ _=>by rw[A0g];simp
 |_::_,[]=>fun _ _=>by rw[A0g];simp
 |x::xs,y::ys=>fun h k=>by
  unfold dF at h k;rw[B3]at h k;rw[A0g];show(PyData.eqv x y&&PyData.eqvAll xs ys)=true↔_;rw[B3,FR x y h.1 k.1,aDM xs ys h.2 k.2,List.cons.injEq]
end
theorem aAr:∀a b:List Int,HT.lexLt a b=true->HT.lexLt b a=false
 |[],[]=>fun h=>by cases h
 |[],_::_=>fun _=>rfl
 |_::_,[]=>fun h=>by cases h
 |x::xs,y::ys=>fun h=>by
  rw[HT.lexLt_cons]at h ⊢;by_cases e:x=y
  .rw[A3 e]at h;rw[A3 e.symm];exact aAr xs ys h
  .rw[A7 e]at h;rw[A7 (O3 e)];have:=D6 h;exact C1 (by omega)
theorem aAO:∀a b c:List Int,HT.lexLt b a=false->HT.lexLt c b=false->HT.lexLt c a=false
 |[],_,[]=>fun _ _=>rfl
 |[],_,_::_=>fun _ _=>rfl
 |x::xs,[],_=>fun h _=>by cases h
 |x::xs,y::ys,[]=>fun _ h=>by cases h
 |x::xs,y::ys,z::zs=>fun h k=>by
  rw[HT.lexLt_cons]at h k ⊢;by_cases e:y=x
  .rw[A3 e]at h;by_cases e':z=y
   .rw[A3 e']at k;rw[A3 (e'.trans e)];exact aAO xs ys zs h k
   .rw[A7 e']at k;subst e;rw[A7 e'];exact k
  .rw[A7 e]at h;have h:=J3 h;by_cases e':z=y
   .subst e';rw[A7 e];exact C1 h
   .rw[A7 e']at k;have k:=J3 k;rw[A7 (by omega)];exact C1 (by omega)
theorem ZT:∀a b:List Int,HT.lexLt a b=false->HT.lexLt b a=false->a=b
 |[],[]=>fun _ _=>rfl
 |[],_::_=>fun h _=>by cases h
 |_::_,[]=>fun _ h=>by cases h
 |x::xs,y::ys=>fun h k=>by
  rw[HT.lexLt_cons]at h k;by_cases e:x=y
  .rw[A3 e]at h;rw[A3 e.symm]at k;rw[e,ZT xs ys h k]
  .rw[A7 e]at h;rw[A7 (O3 e)]at k;have h:=J3 h;have k:=J3 k;omega
theorem TL:∀{xs ys:List PyData}{ns:List Int},kY xs=some ns->kY ys=some ns->xs=ys:=by
 have go:∀{xs:List PyData}{ns:List Int},kY xs=some ns->xs=ns.map .int:=by
  intro xs
  induction xs with
  |nil=>intro ns h;cases h;rfl
  |cons d ds ih=>
   intro ns h;cases d with
   |int n=>
    have h:(kY ds).bind (fun ns=>some (n::ns))=some ns:=h;obtain⟨ms,h1,h2⟩:=Option.bind_eq_some_iff.mp h;cases h2;rw[ih h1];rfl
   |_=>cases h
 intro xs ys ns h k;rw[go h,go k]
theorem rM{x y:PyData}{c:Bool}(h:fL x y=some c):(∃a b,x=.int a/\y=.int b/\c=decide (a<b))\/∃xs ys ns ms,x=.tuple xs/\y=.tuple ys/\kY xs=some ns/\kY ys=some ms/\c=HT.lexLt ns ms:=by
 unfold fL at h;split at h
 .cases h;exact .inl ⟨_,_,rfl,rfl,rfl⟩
 .obtain⟨ns,h1,h⟩:=Option.bind_eq_some_iff.mp h;obtain⟨ms,h2,h⟩:=Option.bind_eq_some_iff.mp h;cases h;exact .inr ⟨_,_,_,_,rfl,rfl,h1,h2,rfl⟩
 .cases h
theorem IF{x y:PyData}{c:Bool}(h:fL x y=some c):∃d,fL y x=some d/\(c=true->d=false)/\(c=false->d=false->x=y):=by
 rcases rM h with⟨a,b,rfl,rfl,rfl⟩|⟨xs,ys,ns,ms,rfl,rfl,h1,h2,rfl⟩
 .refine⟨decide (b<a),rfl,fun z=>C1 (by have:=D6 z;omega),fun z z'=>?_⟩;have z:=J3 z;have z':=J3 z';rw[show a=b by omega]
 .refine⟨HT.lexLt ms ns,?_,fun z=>aAr _ _ z,fun z z'=>?_⟩
  .show(kY ys).bind _=_;rw[h2];show(kY xs).bind _=_;rw[h1];rfl
  .have:=ZT _ _ z z';subst this;rw[TL h1 h2]
theorem aBA{x y z:PyData}(h:fL y x=some false)(k:fL z y=some false):fL z x=some false:=by
 rcases rM h with⟨a,b,rfl,rfl,hh⟩|⟨xs,ys,ns,ms,rfl,rfl,h1,h2,hh⟩
 .rcases rM k with⟨c,d,rfl,e,kk⟩|⟨_,_,_,_,_,e,_⟩
  .cases e;have hh:=J3 hh.symm;have kk:=J3 kk.symm;show some (decide (c<b))=some false;rw[C1 (by omega)]
  .cases e
 .rcases rM k with⟨c,d,rfl,e,kk⟩|⟨zs,ys',ns',ms',rfl,e,k1,k2,kk⟩
  .cases e
  .cases e;rw[h1]at k2;cases k2;have:=aAO _ _ _ hh.symm kk.symm;show(kY zs).bind _=_;rw[k1];show(kY ys).bind _=_;rw[h2];show some _=some false;rw[this]
theorem ZD:∀a b:List PyData,dF a=true->dF b=true->cY a b=some true->cY b a=some false
 |[],[]=>fun _ _ h=>by cases h
 |[],_::_=>fun _ _ _=>rfl
 |_::_,[]=>fun _ _ h=>by cases h
 |x::xs,y::ys=>fun p q h=>by
  unfold dF at p q;rw[B3]at p q;have h:(if PyData.eqv x y=true then cY xs ys else fL x y)=some true:=h;show(if PyData.eqv y x=true then cY ys xs else fL y x)=some false;by_cases e:PyData.eqv x y=true
  .rw[A3 e]at h;have e':=(FR x y p.1 q.1).mp e;rw[A3 ((FR y x q.1 p.1).mpr e'.symm)];exact ZD xs ys p.2 q.2 h
  .rw[A7 e]at h;rw[A7 fun z=>e ((FR x y p.1 q.1).mpr ((FR y x q.1 p.1).mp z).symm)];obtain⟨d,h1,h2,_⟩:=IF h;rw[h1,h2 rfl]
theorem aAK:∀a b c:List PyData,dF a=true->dF b=true->dF c=true->cY b a=some false->cY c b=some false->cY c a=some false
 |[],_,[]=>fun _ _ _ _ _=>rfl
 |[],_,_::_=>fun _ _ _ _ _=>rfl
 |x::xs,[],_=>fun _ _ _ h _=>by cases h
 |x::xs,y::ys,[]=>fun _ _ _ _ h=>by cases h
 |x::xs,y::ys,z::zs=>fun p q r h k=>by
  unfold dF at p q r;rw[B3]at p q r;have hA:(if PyData.eqv y x=true then cY ys xs else fL y x)=some false:=h;clear h;have kA:(if PyData.eqv z y=true then cY zs ys else fL z y)=some false:=k;clear k;show(if PyData.eqv z x=true then cY zs xs else fL z x)=some false;by_cases e:PyData.eqv y x=true
  .rw[A3 e]at hA;have e1:=(FR y x q.1 p.1).mp e;subst e1;by_cases e':PyData.eqv z y=true
   .rw[A3 e']at kA ⊢;exact aAK xs ys zs p.2 q.2 r.2 hA kA
   .rw[A7 e']at kA ⊢;exact kA
  .rw[A7 e]at hA;by_cases e':PyData.eqv z y=true
   .have e1:=(FR z y r.1 q.1).mp e';subst e1;rw[A7 e];exact hA
   .rw[A7 e']at kA
    have ez:¬PyData.eqv z x=true:=fun w=>by
     have w:=(FR z x r.1 p.1).mp w;subst w;obtain⟨d,h1,_,h3⟩:=IF hA;rw[h1]at kA;cases kA;exact e ((FR y z q.1 p.1).mpr (h3 rfl rfl))
    rw[A7 ez];exact aBA hA kA
theorem aAe{rows:List (List PyData)}(h:sortable rows=true):uT (fM rows):=by
 obtain⟨a1,a2,a3,a4,a5⟩:=jB h
 have onl:∀i,dF (rows.getD i [])=true:=fun i=>by
  rw[B6];cases e:rows[i]? with
  |none=>rfl
  |some r=>exact(a3 r (L7 e)).2
 have out:∀i,¬i<rows.length->rows.getD i []=[]:=fun i hi=>by
  rw[B6,List.getElem?_eq_none (by omega)];rfl
 have ans:∀i j,∃c,cY (rows.getD i []) (rows.getD j [])=some c:=fun i j=>by
  by_cases hi:i<rows.length
  .by_cases hj:j<rows.length
   .exact Option.isSome_iff_exists.mp (a5 i j hi hj)
   .rw[out j hj];cases rows.getD i []with
    |nil=>exact⟨_,rfl⟩
    |cons _ _=>exact⟨_,rfl⟩
  .rw[out i hi];exact⟨_,rfl⟩
 have is:∀i j c,fM rows i j=c->cY (rows.getD i []) (rows.getD j [])=some c:=fun i j c e=>by
  obtain⟨d,hd⟩:=ans i j;unfold fM at e;rw[hd]at e ⊢;exact F6 some e
 have un:∀i j c,cY (rows.getD i []) (rows.getD j [])=some c->fM rows i j=c:=fun i j c e=>by
  unfold fM;rw[e];rfl
 exact⟨fun a b e=>un _ _ _ (ZD _ _ (onl a) (onl b) (is _ _ _ e)),fun a b c e e'=>un _ _ _ (aAK _ _ _ (onl a) (onl b) (onl c) (is _ _ _ e) (is _ _ _ e'))⟩
theorem CH{rows:List (List PyData)}(h:sortable rows=true):iL (fM rows) (SV (fM rows) (PySem.W.kas_sort rows.length)) rows.length:=
 (KS.run (aCJ (aAe h) (by have:=(jB h).1;omega))).2
noncomputable def TrS(h B:Heap)(e:Addr)(vs:Array Value):Option Value->Prop
 |none=>vs[1]?=some .none
 |some fl=>∃T oT ts,vs[1]?=some (.ref T)/\B.get? T=none/\T≠e/\h.get? T=some oT/\oT.data=.fields ts/\ts[3]?=some fl
noncomputable def Tr(h B:Heap)(e:Addr)(c:Value)(dx:Option Addr)(st:Option Value):Prop:=
 ∃oe vs,h.get? e=some oe/\(oe.cls=c/\oe.dict=dx)/\oe.data=.fields vs/\1<vs.size/\TrS h B e vs st
structure Fly(B:Heap)(l:List Env)(e:Addr)(c:Value)(dx:Option Addr)(st:Option Value)(h:Heap):Prop where
 stays:B.StaysIn h
 new:B.get? e=none
 frames:h.FunFrames B l
 tr:Tr h B e c dx st
theorem Fly.obj{B h:Heap}{l:List Env}{e:Addr}{c:Value}{dx:Option Addr}{st:Option Value}(F:Fly B l e c dx st h):∃oe vs,h.get? e=some oe/\oe.cls=c/\oe.dict=dx/\oe.data=.fields vs:=by
 obtain⟨oe,vs,h1,h2,h3,_⟩:=F.tr;exact⟨oe,vs,h1,h2.1,h2.2,h3⟩
theorem aCA(o:Obj)(f:Array Value->Array Value):(o.mapFields f).dict=o.dict:=by
 obtain⟨c,d,dt,sl⟩:=o;cases dt<;>rfl
section
variable{M:Model}{A:Around}{E:Value->Shared->Prop}{s:Shared}{B:Heap}{env:Env}{outer l:List Env}{L e:Addr}{c:Value}{dx:Option Addr}{st:Option Value}{Q:Unit->Shared->Prop}
theorem lP{h:Heap}{a b:Addr}{o oa:Obj}{vs:Array Value}(ha:h.get? a=some oa)(hd:oa.data=.fields vs)(hb:h.get? b=some o)(hn:∀ws,o.data≠.fields ws):b≠a:=fun q=>by
 subst q;rw[ha]at hb;cases hb;exact hn vs hd
theorem JE{oe:Obj}{vs:Array Value}{hd:Value}{nx:Bool}(hfr:A.frames=some (env::outer))(hf:env.frame=some L)(stays:B.StaysIn s.heap)(new:B.get? e=none)(fr:s.heap.FunFrames B (env::outer))
 (he:s.heap.get? e=some oe) (hk:oe.cls=c/\oe.dict=dx) (hv:oe.data=.fields vs) (hz:1<vs.size)
 (q:∀h',Fly B (env::outer) e c dx (some (rawInt L)) h'->s.heap.UpToSlots h'->Q () { s with heap:=h' }):
 wpAny M A (do let a <- frameOf env;let pl <- entryPlaceOf L nx;let b <- EntryCells.newEntry hd a .none (rawInt L) .none pl;setField (.ref e) 1 b) Q E s:=by
 have notF:e∉(env::outer).filterMap (·.frame):=fun hm=>by
  obtain⟨_,o,ho,hnf⟩:=fr.mem hm;exact lP he hv ho hnf rfl
 refine A1 (wpAny_frameOf_fun hfr fr hf fun g1 so=>A1 (wpAny_entryPlaceOf fun pl hpl=>?_));unfold EntryCells.newEntry newFields;refine A1 (E2 ?_ (hpl.sizeOk5 _ _ _ _ _));generalize hnw:({ cls:=.type "traceback",dict:=none,data:=.fields ([hd,Value.ref L,.none,rawInt L,.none]++(if pl.isEmpty then List.replicate 6 Value.none else pl)).toArray }:Obj)=nw;have nwd:nw.data=.fields ([hd,Value.ref L,.none,rawInt L,.none]++(if pl.isEmpty then List.replicate 6 Value.none else pl)).toArray:=by rw[<- hnw]
 have e1:g1.get? e=some oe:=(so.2.1 e notF).trans he;have st1:B.StaysIn g1:=fun b o hb=>(so.2.1 b fun hm=>by rw[(fr.mem hm).1]at hb;cases hb).trans (stays b o hb);have e2:(g1.push nw).get? e=some oe:=A4 nw e1;refine A0l e2 hv hz (q _ ?_ ?_)
 all_goals
  have nTe:g1.objs.size≠e:=Nat.ne_of_gt (B9 e1);have e3:=A0d (Obj.mapFields (·.setIfInBounds 1 (Value.ref g1.objs.size))) e2 (Obj.isFreed_of_fields (U9 hv _))
  have kp:∀b o,b≠e->g1.get? b=some o->((g1.push nw).update e (Obj.mapFields (·.setIfInBounds 1 (Value.ref g1.objs.size)))).get? b=some o:=fun b o hbe hb=>by
   rw[S4 _ _ (O3 hbe)];exact A4 _ hb
 .refine⟨fun b o hb=>kp b o (fun z=>by rw[z,new]at hb;cases hb) (st1 b o hb),new,fr.of_keeps fun b o hb hnf=>?_,?_⟩
  .obtain⟨sl,hs⟩:=so.2.2 b o hb;exact⟨_,kp b _ (lP he hv hb hnf) hs,rfl⟩
  .refine⟨_,_,e3,⟨(Obj.cls_mapFields _ _).trans hk.1,(aCA _ _).trans hk.2⟩,U9 hv _,by simpa using hz,g1.objs.size,nw,_,by simp[hz],st1.fresh,nTe,?_,nwd,by simp⟩;rw[S4 _ _ (O3 nTe)];exact D1 g1 (by rw[<- hnw];rfl)
 .intro b o hb hnf;obtain⟨sl,hs⟩:=so.2.2 b o hb;exact⟨sl,kp b _ (lP he hv hb hnf) hs⟩
theorem GA(hfr:A.frames=some (env::outer))(hf:env.frame=some L)(F:Fly B (env::outer) e c dx st s.heap)(hst:st=none\/st=some .none\/st=some (rawInt L))
 (q:∀h',Fly B (env::outer) e c dx (some (rawInt L)) h'->s.heap.UpToSlots h'->Q () { s with heap:=h' }):wpAny M A (noteFrame (.ref e) env) Q E s:=by
 obtain⟨oe,vs,he,hk,hv,hz,ht⟩:=id F.tr;unfold noteFrame;simp only[hf];rcases hst with rfl|rfl|rfl
 .refine A1 (J8 he hv (show vs[1]?=some .none from ht) ?_);rw[A7 (by decide)];exact JE hfr hf F.stays F.new F.frames he hk hv hz q
 .obtain⟨T,oT,ts,t1,t2,t3,t4,t5,t6⟩:=ht;refine A1 (J8 he hv t1 ?_);rw[A3 (show(Value.ref T != Value.none)=true from by simp)];refine A1 (J8 t4 t5 t6 ?_);rw[A7 (show ¬((Value.none==rawInt L)=true)from by simp[rawInt])];refine A1 (A0l t4 t5 (Array.getElem?_eq_some_iff.mp t6).1 ?_);have oth:∀b,b≠T->(s.heap.update T (Obj.mapFields (·.setIfInBounds 3 Value.none))).get? b=s.heap.get? b:=fun b hb=>S4 _ _ (O3 hb)
  refine JE (s:={ s with heap:=s.heap.update T (Obj.mapFields (·.setIfInBounds 3 Value.none)) }) hfr hf (fun b o hb=>(oth b fun z=>by rw[z,t2]at hb;cases hb).trans (F.stays b o hb)) F.new
   (F.frames.of_keeps fun b o hb hnf=>⟨o,(oth b (lP t4 t5 hb hnf)).trans hb,rfl⟩) ((oth e (O3 t3)).trans he) hk hv hz fun h' F' u=>q h' F' fun b o hb hnf=>u b o ((oth b (lP t4 t5 hb hnf)).trans hb) hnf
 .obtain⟨T,oT,ts,t1,t2,t3,t4,t5,t6⟩:=ht;refine A1 (J8 he hv t1 ?_);rw[A3 (show(Value.ref T != Value.none)=true from by simp)];refine A1 (J8 t4 t5 t6 ?_);rw[A3 (show(rawInt L==rawInt L)=true from by simp)];exact B5 (q _ F (.refl _))
theorem yQ{fl:Value}{fo:Option Addr}(F:Fly B l e c dx (some fl) s.heap)
 (q:∀h',Fly B l e c dx (some (fo.elim .none fun f=>rawInt f)) h'->s.heap.UpToSlots h'->Q () { s with heap:=h' }):wpAny M A (setFlight (.ref e) fo) Q E s:=by
 obtain⟨oe,vs,he,hk,hv,hz,T,oT,ts,t1,t2,t3,t4,t5,t6⟩:=id F.tr;have z3:3<ts.size:=(Array.getElem?_eq_some_iff.mp t6).1;unfold setFlight;refine A1 (J8 he hv t1 ?_);rw[A3 (show(Value.ref T != Value.none)=true from by simp)];have oth:∀b,b≠T->(s.heap.update T (Obj.mapFields (·.setIfInBounds 3 (fo.elim .none fun f=>rawInt f)))).get? b=s.heap.get? b:=fun b hb=>S4 _ _ (O3 hb)
 refine A0l t4 t5 z3 (q _ ⟨fun b o hb=>(oth b fun z=>by rw[z,t2]at hb;cases hb).trans (F.stays b o hb),F.new,F.frames.of_keeps fun b o hb hnf=>⟨o,(oth b (lP t4 t5 hb hnf)).trans hb,rfl⟩,
  oe,vs,(oth e (O3 t3)).trans he,hk,hv,hz,T,_,_,t1,t2,t3,A0d _ t4 (Obj.isFreed_of_fields (U9 t5 _)),U9 t5 _,by simp[z3]⟩
  fun b o hb hnf=>⟨o.slots,(oth b (lP t4 t5 hb hnf)).trans hb⟩)
theorem YR(hfr:A.frames=some (env::outer))(hf:env.frame=some L)(F:Fly B (env::outer) e c dx st s.heap)(hst:st=none\/st=some .none\/st=some (rawInt L))
 (q:∀h',Fly B outer e c dx (some .none) h'->s.heap.UpToSlots h'->Q () { s with heap:=h' }):wpAny M A (leaving env (.ref e)) Q E s:=by
 unfold leaving;refine A1 (GA hfr hf F hst fun h1 F1 u1=>yQ (fo:=none) F1 fun h2 F2 u2=>?_);obtain⟨a,b,⟨_,_,c'⟩,d⟩:=F2;exact q h2 ⟨a,b,c',d⟩ (u1.trans u2)
theorem aBz{X:Value->Shared->Prop}(hfr:A.frames=some (env::outer))(hf:env.frame=some L)(F:Fly B (env::outer) e c dx st s.heap)(hst:st=none\/st=some .none\/st=some (rawInt L))
 (q:∀h',Fly B (env::outer) e c dx (some (rawInt L)) h'->s.heap.UpToSlots h'->X (.ref e) { s with heap:=h' }):notedBy M A env (cameBackBy M A env X) (.ref e) s:=by
 unfold notedBy;refine GA hfr hf F hst fun h1 F1 u1=>?_;unfold cameBackBy;obtain⟨oe,vs,he,hk,hv,hz,T,oT,ts,t1,t2,t3,t4,t5,t6⟩:=id F1.tr;refine A1 (J8 he hv t1 ?_);rw[A7 (show ¬((Value.ref T==Value.none)=true)from by simp),hf];exact yQ (s:={ s with heap:=h1 }) (fo:=some L) F1 fun h2 F2 u2=>q h2 F2 (u1.trans u2)
end
structure Body(X:Cx):Prop where
 stk:X.stack=X.env::X.outer
 fr:X.env.frame=some X.env.locals
 ex:X.ex=[]
structure Kp(X:Cx)(H:Hp)(B h:Heap):Prop where
 trk:∀b u o,H b=some u->h.get? b=some o->B.get? b=some o
 ent:∀b o,X.s₀.heap.get? b=some o->b∉X.fs->(∃o',B.get? b=some o')/\(X.H₀ b=none->B.get? b=some o)
 pin:∀p∈X.pn,B.get? p.1=some p.2
section
variable{X:Cx}{pins:List (Addr×Obj)}{σ:St}{H:Hp}{s:Shared}{B h':Heap}
theorem Inv.up(I:Inv X [] σ H s)(b:Body X)(k:Kp X H B s.heap)(stays:B.StaysIn h')(u:s.heap.UpToSlots h'):Inv X [] σ H { s with heap:=h' }/\Kp X H B h':=by
 have tr:∀a v o,H a=some v->s.heap.get? a=some o->h'.get? a=some o:=fun a v o e q=>stays a o (k.trk a v o e q)
 have cell:∀c v,s.heap.IsCell c v->h'.IsCell c v:=fun c v ⟨o,ho,hd⟩=>by
  obtain⟨sl,q⟩:=u c o ho fun vs z=>by rw[hd]at z;cases z
  exact⟨_,q,hd⟩
 have frm:∀a∈X.fs,∀o,s.heap.get? a=some o->∃sl,h'.get? a=some { o with slots:=sl }:=fun a ha o e=>by
  obtain⟨_,o1,h1,hn⟩:=I.funs.mem ha;rw[e]at h1;cases h1;exact u a o e hn
 refine⟨⟨I.ok,I.os,I.bare,⟨fun a o e n ha hx=>?_,fun a o e n ha hx=>?_,I.base.free,fun a o e hx=>?_,I.base.tups,I.base.frzs,I.base.tbls⟩,?_,fun x c e=>?_,I.free,I.freeC,fun p hp=>?_,fun a v e=>?_,I.len⟩,⟨fun a v o e q=>?_,k.ent,k.pin⟩⟩
 .exact stays a o ((k.ent a o e ha).2 n)
 .obtain⟨sl,e1⟩:=I.base.slot a o e n ha hx;obtain⟨sl',e2⟩:=frm a ha _ e1;exact⟨sl',e2⟩
 .by_cases ha:a∈X.fs
  .obtain⟨o1,e1⟩:=I.base.there a o e hx;obtain⟨sl,e2⟩:=frm a ha o1 e1;exact⟨_,e2⟩
  .obtain⟨⟨o',q⟩,_⟩:=k.ent a o e ha;exact⟨o',stays a o' q⟩
 .obtain⟨m,hn,hl⟩:=I.loc;refine⟨m,u.ns hn,fun i x v e1 e2 e3=>?_⟩;obtain⟨uu,r,l⟩:=hl i x v e1 e2 e3;refine⟨uu,r,?_⟩;rcases l with l|⟨kk,c,e,z⟩
  .exact .inl l
  .exact .inr ⟨kk,c,e,cell c _ z⟩
 .obtain⟨v,z⟩:=I.cell x c e;exact⟨v,cell c v z⟩
 .rw[C4]at hp;obtain⟨_,n,ne,nf,d⟩:=I.pin p (C9 _ hp);exact⟨stays _ _ (k.pin p hp),n,ne,nf,d⟩
 .exact(I.hok a v e).stay (fun c w hc q=>by
   rcases hc with rfl|hc
   .exact tr c v w e q
   .exact tr c _ w hc q) (fun _ q=>q) fun _ _ q=>q
 .obtain⟨o1,q1⟩:=(I.hok a v e).there;have:=tr a v o1 e q1;rw[q]at this;cases this;exact k.trk a v o e q1
noncomputable def XS(X:Cx)(EE:St->XK)(ev:Value)(s:Shared):Prop:=
 ∃e c dx st σ H B,ev=.ref e/\Inv X [] σ H s/\Kp X H B s.heap/\Fly B X.stack e c dx st s.heap/\(st=none\/st=some .none\/st=some (rawInt X.env.locals))/\EE σ c dx H
theorem XS.unwish{EE:St->XK}{E:Value->Shared->Prop}{ev:Value}(h:XS (X.wish E) EE ev s):XS X EE ev s:=by
 obtain⟨e,c,dx,st,σ,H,B,h1,I,k,F,hst,q⟩:=h;exact⟨e,c,dx,st,σ,H,B,h1,I.unwish,⟨k.trk,k.ent,k.pin⟩,F,hst,q⟩
noncomputable def CX1(P:Program)(w:World):CXT:=fun outer H s E ev s'=>∃e c dx H' B,ev=.ref e/\s'.os=s.os/\AllBare s'.gens/\Un (frs outer) [] H H' s.heap s'.heap/\HOk P w H' s'.heap/\Fly B outer e c dx (some .none) s'.heap /\
 (∀b u o,H' b=some u->s'.heap.get? b=some o->B.get? b=some o)/\(∀b o,s.heap.get? b=some o->b∉frs outer->(∃o',B.get? b=some o')/\(H b=none->B.get? b=some o))/\E c dx H'
theorem Inv.entry(I:Inv X pins σ H s)(bd:Body X){b:Addr}{o:Obj}(e:X.s₀.heap.get? b=some o)(hb:b∉X.fs):b∉frs X.stack/\(∃o1,s.heap.get? b=some o1)/\(X.H₀ b=none->s.heap.get? b=some o/\H b=none):=by
 have nx:b∉X.ex:=by rw[bd.ex];simp
 refine⟨fun z=>?_,I.base.there b o e nx,fun n=>⟨I.base.keep b o e n hb nx,I.base.free b o e n nx⟩⟩;rcases List.mem_cons.mp (I.stkSub b z)with q|q
 .exact absurd (q▸C3 (B9 e) I.ok.above) (F8 _)
 .exact hb q
theorem aFS{EE:St->XK}{ev:Value}{s':Shared}(bd:Body X)(I:Inv X pins σ H s)(h:CX1 X.prog X.w X.stack H s (EE σ) ev s'):XS X EE ev s':=by
 obtain⟨e,c,dx,H',B,rfl,os,bare,un,hok,F,trk,ent,q⟩:=h;have I':Inv X pins σ H' s':=I.call' os un hok bare fun b z=>absurd z (by simp);refine⟨e,c,dx,some .none,σ,H',B,rfl,I'.pins_of fun p hp=>absurd hp (by simp),⟨trk,fun b o e hb=>?_,fun p hp=>?_⟩,F,.inr (.inl rfl),q⟩
 .obtain⟨h1,⟨o1,h2⟩,h3⟩:=I.entry bd e hb;exact⟨(ent b o1 h2 h1).1,fun n=>(ent b o (h3 n).1 h1).2 (h3 n).2⟩
 .obtain⟨h1,n,ne,nf,_⟩:=I.pin p (C9 _ hp);exact(ent p.1 p.2 h1 fun z=>(List.mem_cons.mp (I.stkSub p.1 z)).elim ne nf).2 n
theorem aEW{EE:St->XK}{e:Addr}{oe:Obj}{vs:Array Value}(bd:Body X)(I:Inv X pins σ H s)(he:s.heap.get? e=some oe)(hn:H e=none)(h0:X.s₀.heap.get? e=none)(hp:∀p∈X.pn,p.1≠e)(hv:oe.data=.fields vs)(hz:1<vs.size)(h1:vs[1]?=some .none)
 (q:EE σ oe.cls oe.dict H):XS X EE (.ref e) s:=by
 have nf:e∉frs X.stack:=fun hm=>by
  obtain⟨_,o,ho,hnf⟩:=I.stack.mem hm;exact lP he hv ho hnf rfl
 have get:∀b o,b≠e->b∉frs X.stack->s.heap.get? b=some o->(PySem.W.hideAll s.heap (e::frs X.stack)).get? b=some o:=fun b o h1 h2 h3=>PySem.W.hideAll_get _ h3 fun hm=>(List.mem_cons.mp hm).elim h1 h2;refine⟨e,oe.cls,oe.dict,none,σ,H,PySem.W.hideAll s.heap (e::frs X.stack),rfl,I.pins_of fun p hp=>absurd hp (by simp),⟨fun b u o h1 h2=>?_,fun b o h1 h2=>?_,fun p h1=>?_⟩,⟨fun b o h1=>PySem.W.of_hideAll _ h1,PySem.W.hideAll_none _ B0,?_,oe,vs,he,⟨rfl,rfl⟩,hv,hz,h1⟩,.inl rfl,q⟩
 .exact get b o (aU h1 hn) (fun z=>by rw[I.stkFree b z]at h1;cases h1) h2
 .obtain⟨k1,⟨o1,k2⟩,k3⟩:=I.entry bd h1 h2;have ne:b≠e:=fun z=>by rw[z,h0]at h1;cases h1
  exact⟨⟨o1,get b o1 ne k1 k2⟩,fun n=>get b o ne k1 (k3 n).1⟩
 .obtain⟨q1,n,ne,nf,_⟩:=I.pin p (C9 _ h1);exact get p.1 p.2 (hp p h1) (fun z=>(List.mem_cons.mp (I.stkSub p.1 z)).elim ne nf) q1
 .exact PySem.W.funFrames_hide I.stack fun env hm a ha=>A9 _ (List.mem_filterMap.mpr ⟨env,hm,ha⟩)
theorem aAn{EE:St->XK}(bd:Body X):PassesOwn (model X.prog X.w) X.A X.env (XS X EE):=by
 rintro ev s ⟨e,c,dx,st,σ,H,B,rfl,I,k,F,hst,q⟩;have hf:=I.ok.frames;rw[bd.stk]at hf F;refine aBz hf bd.fr F hst fun h' F' u=>?_;obtain⟨I',k'⟩:=I.up bd k F'.stays u;exact⟨e,c,dx,_,σ,H,B,rfl,I',k',by rw[bd.stk];exact F',.inr (.inr rfl),q⟩
end
section
variable{P:Program}{w:World}{K:Fg}{mg:Str->Option Value}{base:Heap}{N:List Str}{qual:Str}{scope:Scope}{f:Addr}{cd:Value}{A:Around}{outer:List Env}{s:Shared}{H:Hp}{E:XK}{CX:CXT}
theorem ON:Body (oO CX P w K mg base N qual scope f cd A outer s H E):=⟨rfl,rfl,rfl⟩
theorem Body.wish{X:Cx}(b:Body X)(E:Value->Shared->Prop):Body (X.wish E):=⟨b.stk,b.fr,b.ex⟩
theorem UQ{ev:Value}{s':Shared}(h:XS (oO (CX1 P w) P w K mg base N qual scope f cd A outer s H E) (fun _=>E) ev s'):(oO (CX1 P w) P w K mg base N qual scope f cd A outer s H E).xe ev s':=by
 obtain⟨e,c,dx,st,σ,H',B,rfl,I,k,F,hst,q⟩:=h;refine YR (c:=c) (dx:=dx) (st:=st) (B:=B) (outer:=outer) (L:=s.heap.objs.size) I.ok.frames rfl F hst fun h' F' u=>?_;obtain⟨I',k'⟩:=I.up ON k F'.stays u;exact⟨e,c,dx,H',B,rfl,I'.os,I'.bare,I'.base,I'.hok,F',k'.trk,k'.ent,q⟩
theorem aGJ{k:Nat}{name:Str}{params:Arguments}{body:List Stmt}{dV kV doc pm cdv ct oc:Value}{an od:Option Addr}
 {osl:Array (Option Value)} {ps:List Str} {sp:Sp} (lk:K.lookup f=some ⟨oc,od,.func (PySem.W.fnOf name qual params body scope dV kV doc pm an cdv ct),osl⟩) (hcd:PySem.W.codeIn K cdv qual=true) (S:aX N ps scope)
 (len:∀vs H Q E,sp vs H Q E->vs.length=ps.length)
 (hbody:∀(A:Around)(outer:List Env)(s:Shared)(H:Hp)(vs:List V)(Q:VK)(E:XK),eE k (A.deeper (envOfC qual scope s.heap.objs.size f cdv))->sp vs H Q E->
  ∃t,PSs ((oO (CX1 P w) P w K mg base N qual scope f cdv A outer s H E).wish (XS (oO (CX1 P w) P w K mg base N qual scope f cdv A outer s H E) fun _=>E)) body t/\t { nx:=fun _ H'=>Q .non H',rt:=Q } (start N vs) H):
 oK P w K mg base (CX1 P w) (k+1) f (PySem.W.fnOf name qual params body scope dV kV doc pm an cdv ct) ps sp:=
 aDJ lk hcd S len fun A outer s H vs Q E hr h=>by
  obtain⟨t,ht,hq⟩:=hbody A outer s H vs Q E hr h;exact⟨t,fun pins s' σ H' D I hw=>E1 (ht pins s' σ H' D (I.wish _) hw) (fun _ _ q=>q.unwish) fun _ _ z=>UQ z,hq⟩
end
structure YK(K:Fg)(C:Addr):Prop where
 ga:PySem.W.findIn K (.ref C) "__getattribute__"=some (some (.builtin "BaseException.__getattribute__"))
 gh:PySem.W.findIn K (.ref C) "__getattr__"=some none
 be:PySem.W.subIn K (.ref C) (.type "BaseException")=some true
 cl:(PySem.W.clsIn K C).isSome=true
section
variable{prog:Program}{w:World}{A:Around}{E:Value->Shared->Prop}{s:Shared}{K:Fg}{x C:Addr}{ox:Obj}{od:Option Obj}{name:Str}
theorem FP{tk:Tok}{Q:Value->Shared->Prop}(X:K.In s.heap)(I:PySem.W.InstAt s.heap x ox C od)(c:YK K C)
 (h:wpAny (model prog w) A.in1 (Builtin.«object.__getattribute__» ⟨[.ref x,.str name tk],[]⟩)
  (fun fin s'=>match fin with|.done (.ret v)=>Q v s'|.done _=>False|.again c'=>c'.quiet=true/\codeAny (model prog w) A c' (fun r s'=>match r with|.ok (.ret v)=>Q v s'|.ok _=>False|.error e=>E e s') s') E s):
 wpAny (model prog w) A (call (.builtin "BaseException.__getattribute__") [.ref x,.str name tk]) Q E s:=by
 have hb:=F.entry_bexc_ga;generalize Builtin.«object.__getattribute__»=b at hb h;refine wpAny_call (codeAny_call_builtin F.excAttr_ValueError.ga.plain hb ?_);have hk:builtinKind "BaseException.__getattribute__"=some .slot:=by decide +kernel
 have hsplit:splitId "BaseException.__getattribute__"=some ("BaseException","__getattribute__"):=by decide +kernel
 have ha:=F.args_bexc_ga (.ref x) (.str name tk);have L0:=I.type (M:=model prog w);have L1:=PySem.W.looks_subIn (M:=model prog w) X c.be;obtain⟨hh,g,d,t,os⟩:=s;simp only[checkBuiltinCall,hk,hsplit];refine A1 ?_;unfold isInstance;refine A1 (L0.at (L1.at ?_))
 repeat (first|assumption|wp_step)
 refine E1 h (fun fin s' z=>?_) fun _ _ z=>z;rcases fin with(_|_|_|_)|c'
 .exact z
 .exact z
 .exact z
 .exact z
 .exact⟨z.1,A0i z.2 fun r s' q=>by cases r with
   |error e=>exact q
   |ok f=>cases f<;>exact q⟩
theorem RZ{tk:Tok}{fill ex:Bool}{Q:Value->Shared->Prop}(X:K.In s.heap)(I:PySem.W.InstAt s.heap x ox C od)(c:YK K C)
 (h:wpAny (model prog w) A.in1 (Builtin.«object.__getattribute__» ⟨[.ref x,.str name tk],[]⟩)
  (fun fin s'=>match fin with|.done (.ret v)=>wpAny (model prog w) A (handedOut v) Q E s'|.done _=>False|.again c'=>c'.quiet=true/\codeAny (model prog w) A c' (fun r s'=>match r with|.ok (.ret v)=>wpAny (model prog w) A (handedOut v) Q E s'|_=>False) s') (fun _ _=>False) s):
 wpAny (model prog w) A (getAttrBy (.ref x) (.str name tk) fill ex) Q E s:=by
 have L0:=I.type (M:=model prog w);have L1:=PySem.W.looks_findIn (M:=model prog w) X c.ga;have L2:=PySem.W.looks_findIn (M:=model prog w) X c.gh;unfold getAttrBy;refine J1 (A1 (L0.here (A1 (L1.here ?_))));have hx2:(Value.builtin "BaseException.__getattribute__"==Value.builtin "object.__getattribute__")=false:=by decide +kernel
 have hx1:(onTheHeap (Value.ref C)&&Value.builtin "BaseException.__getattribute__"==Value.builtin "object.__getattribute__")=false:=by rw[hx2];rfl
 dsimp only;rw[hx1,A7 A8];unfold getAttrByItsOwn hookBefore;rw[A3 (show onTheHeap (Value.ref C)=true from rfl)];refine A1 (L2.here (A1 (wpAny_attempt (J1 ?_))));unfold callGetattribute;rw[A7 (show ¬((ex&&onTheHeap (Value.builtin "BaseException.__getattribute__"))=true)from by cases ex<;>exact A8)];unfold boundAndCalled;rw[F.excAttr_ValueError.ga.bind (.ref x)];refine A1 (B5 ?_);refine E1 (FP (tk:=tk) (name:=name) (E:=fun _ _=>False) (Q:=fun v s'=>wpAny (model prog w) A (handedOut v) Q E s') X I c ?_) (fun v s' z=>z) fun _ _ z=>z.elim;refine E1 h (fun fin s' z=>?_) fun _ _ z=>z;rcases fin with(_|_|_|_)|c'
 .exact z
 .exact z
 .exact z
 .exact z
 .exact⟨z.1,A0i z.2 fun r s' q=>by cases r with
   |error e=>exact q
   |ok f=>cases f<;>exact q⟩
theorem SU{Q:Option Value->Shared->Prop}(X:K.In s.heap)(I:PySem.W.InstAt s.heap x ox C od)(c:YK K C)(ha:PySem.W.findIn K (.ref C) "__class__"=some (some (.builtin "object.__class__")))
 (hn:PySem.W.specialIn K (.builtin "object.__class__") "__get__"=some (some (.builtin "getset_descriptor.__get__"))) (htk:PySem.W.takesIn K (.builtin "object.__class__")=some true) (hm:PySem.W.mroIn K C (.type "object")=some true)
 (h:Q (some (.ref C)) { s with toks:=s.toks+1 }):wpAny (model prog w) A (getAttr? (.ref x) "__class__") Q E s:=by
 have hf:PySem.W.findObj K C od "__class__"=some (.bind (.builtin "getset_descriptor.__get__") (.builtin "object.__class__")):=by
  obtain⟨cd,hc⟩:=Option.isSome_iff_exists.mp c.cl;unfold PySem.W.findObj;rw[hc,A0,ha,A0];simp[hn,htk]
 unfold getAttr? getAttrBy?;refine A1 (wpAny_mkText (A1 (wpAny_attempt (RZ (s:={ s with toks:=s.toks+1 }) X I c ?_))));obtain⟨h0,g,d,t,os⟩:=s;have L0:=I.type (M:=model prog w);have L1:=PySem.W.looks_find (M:=model prog w) X I hf;refine A1 (B5 (A1 (B5 (A1 (L0.at (A1 (L1.at ?_)))))));show wpAny _ _ (Builtin.ObjectAttr.bindTo (.builtin "getset_descriptor.__get__") (.builtin "object.__class__") (.ref x) (.ref C)) _ _ _;unfold Builtin.ObjectAttr.bindTo;refine A1 (J1 (wpAny_call (PySem.W.class_get (ox:=ox) (od:=od) X I hm ?_)));refine B5 ?_;show wpAny _ _ (handedOut (.ref C)) _ _ _;exact B5 (B5 h)
theorem aAp(c:YK K C)(ha:PySem.W.findIn K (.ref C) "__class__"=some (some (.builtin "object.__class__")))
 (hn:PySem.W.specialIn K (.builtin "object.__class__") "__get__"=some (some (.builtin "getset_descriptor.__get__"))) (htk:PySem.W.takesIn K (.builtin "object.__class__")=some true) (hm:PySem.W.mroIn K C (.type "object")=some true):
 PySem.W.KitX K (.ref x) (.ref C) (fun h=>∃ox od,PySem.W.InstAt h x ox C od) where
 ty:=fun _ _ _ ⟨_,_,I⟩=>I.type
 it:=fun _ _ X _=>by
  have hc:=c.cl;unfold PySem.W.clsIn at hc;split at hc
  .rename_i c' d' cd' sl' ho;intro A' Q' E' s' k q;unfold isType loadHead;exact A1 (wpAny_loadPart (k _ _ (X _ _ ho)) (B5 q))
  .cases hc
 ne:=fun h tp dd its n sl X htp=>by
  have hc:=c.cl;refine Bool.eq_false_iff.mpr fun q=>?_;have e:C=tp:=Value.ref.inj (beq_iff_eq.mp q);subst e;unfold PySem.W.clsIn at hc;split at hc
  .rename_i c' d' cd' sl' ho;have z:=(X _ _ ho).symm.trans htp;cases z
  .cases hc
 ca:=fun X ⟨_,_,I⟩ k=>SU X I c ha hn htk hm k
end
section
variable{X:Cx}{pins:List (Addr×Obj)}{σ:St}{H:Hp}{s:Shared}
noncomputable def FE(sp:Sp)(EE:St->XK)(t:TA):TE:=fun σ H Q=>t σ H fun vs H1=>sp vs H1 Q (EE σ)
structure kG(P:Program)(w:World)(K:Fg)(mg:Str->Option Value)(base:Heap)(k:Nat)(x:Str)(ps:List Str)(sp:Sp):Prop where
 ex:∃f fd,oK P w K mg base (CX1 P w) k f fd ps sp/\mg x=some (.ref f)/\PySem.W.keepIn K (.ref f)=true/\Binds K fd ps []
structure XOk(X:Cx)(EE:St->XK):Prop where
 bd:Body X
 pass:∀ev s,XS X EE ev s->X.xe ev s
 own:PassesOwn (model X.prog X.w) X.A X.env X.xe
theorem XOk.of{X:Cx}(bd:Body X)(EE:St->XK):XOk (X.wish (XS X EE)) EE:=⟨bd.wish _,fun _ _ h=>h.unwish,aAn bd⟩
theorem aBt{EE:St->XK}{k:Nat}{f:Addr}{fd:FuncData}{ps:List Str}{sp:Sp}{Q:VK}{us:List Value}{vs:List V}(ok:XOk X EE)(F:oK X.prog X.w X.K X.mg X.base (CX1 X.prog X.w) k f fd ps sp)(hr:eE k X.A)(hb:Binds X.K fd ps [])
 (I:Inv X pins σ H s) (r:bE vs us) (h:sp vs H Q (EE σ)):wpAny (model X.prog X.w) X.A (call (.ref f) us) (EP X pins σ Q) X.xe s:=by
 have hl:us.length=ps.length:=by rw[<- r.length];exact F.len _ _ _ _ h
 have b:=hb s us I.kIn (by rw[C4];exact hl);rw[C4]at b;refine wpAny_call (A0i (F.run X.A X.stack s H ⟨us,[]⟩ us vs Q (EE σ) hr I.env0 b r h) fun r s' hq=>?_);cases r with
 |error e=>exact ok.pass _ _ (aFS ok.bd I hq)
 |ok fl=>
  cases fl with
  |ret u=>exact I.after hq
  |next=>exact False.elim hq
  |brk=>exact False.elim hq
  |cont=>exact False.elim hq
theorem aCM{EE:St->XK}{k:Nat}{x:Str}{ps:List Str}{sp:Sp}{p pos:Pos}{e:Expr}{es:List Expr}{t:TA}(ok:XOk X EE)(C:kG X.prog X.w X.K X.mg X.base k x ps sp)(hr:eE k X.A)(ha:PA X (e::es) t)(hg:Gl X x)
 (hdb:(x==("__debug__":Str))=false) (he:starEach (e::es) X.env=(false,eval e X.env)::starEach es X.env) (hpl:(backTo pos (starEach es X.env)).any (·.1)=false):
 PE X (.Call (.Name x p) (e::es) [] pos) (FE sp EE t):=by
 intro pins s σ H Q I h;obtain⟨f,fd,F,m,kp,b⟩:=C.ex;refine Z6 (uE I hg m ?_ hdb);exact PySem.W.callWith_K (h₀:=X.base) I.ok.mod.kin kp (thn (ha pos pins s σ H _ I h) fun us s1 ⟨vs,H1,I1,r,q⟩=>⟨I1.kIn,aBt ok F hr b I1 r q⟩) he hpl
noncomputable abbrev bmV:List Value:=[.type "ValueError",.type "Exception",.type "BaseException",.type "object"]
theorem aBL{h:Heap}{C:Addr}{bmB:List Value}{nid:String}(X:K.In h)(q:PySem.W.excIn K C bmB nid=true):
 ∃bm N nm qn bs hd sn sub ab col dd k0 k1 k2 k3 k5 mN,h.get? C=some (excClassObj nm qn C N bs bm hd sn sub ab col dd k0 k1 k2 k3 k5 nid)/\h.Ns N mN/\mN "__init__"=none/\OwnTail h bmB bm:=by
 unfold PySem.W.excIn at q;split at q
 case h_2=>cases q
 case h_1 dd cd sl lk=>
  split at q
  case h_2=>cases q
  case h_1 C' bm k0 k1 k2 k3 n k5 hm hs=>
   simp only[Bool.and_eq_true,beq_iff_eq,Bool.not_eq_true']at q;obtain⟨⟨⟨⟨⟨q1,q2⟩,q3⟩,q4⟩,q5⟩,q6⟩:=q;subst q1 q2;cases cd with
   |mk nm bs mro ns qn hd sn sub ab col del=>
    cases hm;cases q3
    have es:sl=#[k0,k1,k2,k3,some (.builtin n),k5]:=by
     cases sl with
     |mk l=>exact F6 Array.mk hs
    cases es;exact⟨bm,ns,nm,qn,bs,hd,sn,sub,ab,col,dd,k0,k1,k2,k3,k5,_,X _ _ lk,.of_isNs (PySem.W.isNs_of_in X q5),PySem.W.nsMap_none_of_in X q5 q6,PySem.W.tail_of_in X q4⟩
noncomputable def IC(EE:St->XK)(C:Addr):TS:=fun _ σ H=>EE σ (.ref C) none H
theorem TZ{EE:St->XK}{C:Addr}{x:Str}{np cpos pos:Pos}(ok:XOk X EE)(hc:X.calm=true)(hm:X.mg x=some (.ref C))(q:PySem.W.excIn X.K C bmV "ValueError.__new__"=true)(hg:Gl X x)
 (hdb:(x==("__debug__":Str))=false):PS X (.Raise (some (.Call (.Name x np) [] [] cpos)) none pos) (IC EE C):=by
 intro pins s σ H D I h;obtain⟨bm,N,nm,qn,bs,hd,sn,sub,ab,col,dd,k0,k1,k2,k3,k5,mN,oC,oN,oi,ot⟩:=aBL I.kIn q
 refine wpAny_Raise_call_subT (C:=C) (nm:=nm) (q:=qn) (N:=N) (bs:=bs) (bm:=bm) (hdct:=hd) (sn:=sn) (sub:=sub) (ab:=ab) (col:=col) (dd:=dd) (k0:=k0) (k1:=k1) (k2:=k2) (k3:=k3) (k5:=k5) (mN:=mN)
  F.excBase_ValueError (ot.hasType F.excBase_ValueError.hasBase) (I.ok.hd hc) rfl oi (uE I hg hm ⟨rfl,evalArgs_empty ⟨rfl,E5 _,oC,oN,ot,fun h' e mk=>ok.pass _ _ ?_⟩⟩ hdb)
 obtain⟨t,he,_,_⟩:=mk.there;have I':Inv X pins σ H { s with heap:=h' }:=I.kept mk.keeps
 have hn:H e=none:=by
  cases z:H e with
  |none=>rfl
  |some u=>
   obtain⟨o,z'⟩:=(I.hok e u z).there;rw[mk.new]at z';cases z'
 refine aEW ok.bd I' he hn ?_ (fun p hp z=>?_) rfl (show 1<6 by decide) rfl h
 .cases z:X.s₀.heap.get? e with
  |none=>rfl
  |some o=>
   obtain⟨o1,z1⟩:=I.base.there e o z (by rw[ok.bd.ex];simp);rw[mk.new]at z1;cases z1
 .have:=(I.pin p (C9 _ hp)).1;rw[z,mk.new]at this;cases this
end
noncomputable def hCx(X:Cx)(e:Addr):Cx:={ X with A:=X.A.mark (some (.ref e)),calm:=false,xe:=fun _ _=>False }
noncomputable def yB(X:Cx)(pins:List (Addr×Obj)):Cx:={ X with pn:=X.pn++pins }
section
variable{X:Cx}{pins:List (Addr×Obj)}{σ:St}{H:Hp}{s:Shared}
theorem Inv.toH(I:Inv X pins σ H s)(e:Addr):Inv (hCx X e) pins σ H s:=
 ⟨⟨I.ok.mod,I.ok.kind,I.ok.glob,I.ok.blt,I.ok.above,I.ok.inj,I.ok.has,I.ok.cab,fun z=>(by cases z),I.ok.frames,I.ok.stk,I.ok.exf,I.ok.bs,I.ok.bsz,I.ok.noex,I.ok.exfs,I.ok.funs,I.ok.frf⟩,I.os,I.bare,I.base,I.loc,I.cell,I.free,I.freeC,I.pin,I.hok,I.len⟩
theorem Inv.ofH{e:Addr}(I:Inv (hCx X e) pins σ H s)(ok:X.Ok):Inv X pins σ H s:=⟨ok,I.os,I.bare,I.base,I.loc,I.cell,I.free,I.freeC,I.pin,I.hok,I.len⟩
theorem Inv.toP(I:Inv X pins σ H s):Inv (yB X pins) [] σ H s:=
 ⟨⟨I.ok.mod,I.ok.kind,I.ok.glob,I.ok.blt,I.ok.above,I.ok.inj,I.ok.has,I.ok.cab,I.ok.hd,I.ok.frames,I.ok.stk,I.ok.exf,I.ok.bs,I.ok.bsz,I.ok.noex,I.ok.exfs,I.ok.funs,I.ok.frf⟩,I.os,I.bare,I.base,I.loc,I.cell,I.free,I.freeC,fun p hp=>I.pin p (by rw[C4]at hp;exact hp),I.hok,I.len⟩
theorem Inv.ofP(I:Inv (yB X pins) [] σ H s)(ok:X.Ok):Inv X pins σ H s:=⟨ok,I.os,I.bare,I.base,I.loc,I.cell,I.free,I.freeC,fun p hp=>I.pin p (by rw[C4];exact hp),I.hok,I.len⟩
theorem Inv.track{e:Addr}{oe:Obj}{vs:Array Value}(I:Inv X pins σ H s)(he:s.heap.get? e=some oe)(hv:oe.data=.fields vs)(hn:H e=none)(h0:X.s₀.heap.get? e=none)(hp:∀p∈X.pn++pins,p.1≠e):
 Inv X pins σ (upd H e (.ext (IV e oe.cls oe.dict false))) s:=by
 have ne:∀b u,H b=some u->b≠e:=fun b u z=>aU z hn;refine⟨I.ok,I.os,I.bare,⟨I.base.keep,I.base.slot,fun b o q n hx=>?_,I.base.there,fun b xs q=>?_,fun b o u q=>?_,fun b ps q=>?_⟩,I.loc,I.cell,?_,fun x c q=>?_,fun p h=>?_,fun b u q=>?_,I.len⟩
 .rw[aV (fun z=>by rw[z,h0]at q;cases q)];exact I.base.free b o q n hx
 .have:=I.base.tups b xs q;rw[aV (ne _ _ this)];exact this
 .have:=I.base.frzs b o u q;rw[aV (ne _ _ this)];exact this
 .obtain⟨more,this⟩:=I.base.tbls b ps q;exact⟨more,by rw[aV (ne _ _ this)];exact this⟩
 .obtain⟨m,⟨o,es,ep,ho,hd,_⟩,_⟩:=I.loc;rw[aV (lP he hv ho fun ws z=>by rw[hd]at z;cases z)];exact I.free
 .obtain⟨v,o,ho,hd⟩:=I.cell x c q;rw[aV (lP he hv ho fun ws z=>by rw[hd]at z;cases z)];exact I.freeC x c q
 .obtain⟨q1,q2,q3⟩:=I.pin p h;exact⟨q1,by rw[aV (hp p h)];exact q2,q3⟩
 .by_cases hb:b=e
  .subst hb;rw[aY]at q;cases q;exact⟨⟨oe,vs,he,rfl,rfl,hv,fun z=>by cases z⟩,⟨oe,he⟩,fun h1 h2 ⟨o,ws,z1,z2⟩ k=>⟨o,ws,k o z1,z2⟩⟩
  .rw[aV hb]at q;exact(I.hok b u q).stay (fun _ _ _ z=>z) (fun c z=>by rw[aV (ne _ _ z)];exact z) fun c xs z=>by rw[aV (ne _ _ z)];exact z
theorem rP{M:Model}{A:Around}{E:Value->Shared->Prop}{i:Nat}{x:Str}{pos:Pos}{Q:Unit->Shared->Prop}(I:Inv X pins σ H s)(hN:X.N.Nodup)(hi:X.N[i]?=some x)(hk:X.env.scope.names.lookup x=some .local)
 (h:∀s',Inv X pins (σ.set i none) H s'->Q () s'):wpAny M A (do bindName X.env x .none;unbindBehindTheSuite X.env x pos) Q E s:=by
 obtain⟨m,hn,hl⟩:=id I.loc;have hcls:(X.env.scope.kind==.class || (X.env.scope.kind==.module&&X.env.locals != X.env.globals))=false:=by rw[I.ok.kind];rfl
 have hiσ:i<σ.length:=by rw[I.len];exact(List.getElem?_eq_some_iff.mp hi).1
 obtain⟨oL,_,_,hoL,_⟩:=id hn;refine wpAny_nameGoes_keeps hk hn hcls fun h' v hn' hs=>h _ ?_;have ltL:∀b o,X.s₀.heap.get? b=some o->b≠X.env.locals:=fun b o q=>C7 (C3 (B9 q) I.ok.above);refine⟨I.ok,I.os,I.bare,⟨fun b o q n hb hx=>(hs.2 b (ltL b o q)).trans (I.base.keep b o q n hb hx),fun b o q n hb hx=>?_,I.base.free,fun b o q hx=>?_,I.base.tups,I.base.frzs,I.base.tbls⟩,⟨_,hn',fun j y v' e1 e2 e3=>?_⟩,fun y c q=>?_,I.free,I.freeC,fun p hp=>?_,fun b u q=>?_,by simpa using I.len⟩
 .obtain⟨sl,e1⟩:=I.base.slot b o q n hb hx;exact⟨sl,(hs.2 b (ltL b o q)).trans e1⟩
 .obtain⟨o',e1⟩:=I.base.there b o q hx;exact⟨o',(hs.2 b (ltL b o q)).trans e1⟩
 .have hj:j≠i:=fun z=>by
   subst z;rw[L8 hiσ]at e2;cases e2
  rw[O7 (O3 hj)]at e2;obtain⟨u',r',z⟩:=hl j y v' e1 e2 e3;refine⟨u',r',?_⟩;rcases z with⟨k,e⟩|⟨k,c,e,z⟩
  .have:y≠x:=fun e=>hj (zI hN e1 (e▸hi));exact .inl ⟨k,by simp[this,e]⟩
  .exact .inr ⟨k,c,e,z.sameBut hs (I.cne y c e)⟩
 .obtain⟨w',z⟩:=I.cell y c q;exact⟨w',z.sameBut hs (I.cne y c q)⟩
 .obtain⟨e,n,ne,nf,d⟩:=I.pin p hp;exact⟨(hs.2 p.1 ne).trans e,n,ne,nf,d⟩
 .refine(I.hok b u q).stay (fun c w' hc z=>(hs.2 c ?_).trans z) (fun _ z=>z) fun _ _ z=>z;rintro rfl;rcases hc with rfl|hc
  .rw[I.free]at q;cases q
  .rw[I.free]at hc;cases hc
structure HR where
 c:Value
 n:Option Nat
 t:TS
noncomputable def unbN:Option Nat->St->St
 |none,σ=>σ
 |some i,σ=>σ.set i none
noncomputable def setN:Option Nat->St->V->St
 |none,σ,_=>σ
 |some i,σ,v=>σ.set i (some v)
noncomputable def ZR(D:Ends)(n:Option Nat):Ends:={ nx:=fun σ H=>D.nx (unbN n σ) H,rt:=D.rt,bk:=fun σ H=>D.bk (unbN n σ) H,ct:=fun σ H=>D.ct (unbN n σ) H }
noncomputable def tHs(K:Fg)(D:Ends):List HR->St->XK
 |[],_,_,_,_=>False
 |h::r,σ,c,dx,H=>∃b,PySem.W.exmOne K c h.c=some b/\(if b=true then ∀e,H e=none->h.t (ZR D h.n) (setN h.n σ (.ref e)) (upd H e (.ext (IV e c dx false)))else tHs K D r σ c dx H)
noncomputable def UY(X:Cx)(hs:List ExceptHandler)(rs:List HR):Prop:=∀(pins:List (Addr×Obj))(D:Ends)(e:Addr)(c:Value)(dx:Option Addr)(σ:St)(H:Hp)(s:Shared)(B:Heap)(E:Value->Shared->Prop),X.Ok->Inv (yB X pins) [] σ H s->Kp (yB X pins) H B s.heap->
 Fly B X.stack e c dx (some .none) s.heap->tHs X.K D rs σ c dx H->wpAny (model X.prog X.w) X.A (handleBy (.ref e) X.env hs) (SP X pins D) E s
theorem aFA:UY X [] []:=fun _ _ _ _ _ _ _ _ _ _ _ _ _ _ h=>h.elim
noncomputable def VC(X:Cx)(x:Str)(c:Value):Prop:=X.mg x=some c\/(X.mg x=none/\bootBuiltins x=some c/\x≠"__name__")
theorem aGL{x:Str}{c:Value}{pos:Pos}{E:Value->Shared->Prop}{Q:Value->Shared->Prop}(n:VC X x c)(I:Inv X pins σ H s)(hg:Gl X x)(hd:(x==("__debug__":Str))=false)(h:Q c s):
 wpAny (model X.prog X.w) X.A (eval (.Name x pos) X.env) Q E s:=by
 rcases n with m|⟨m,b,z⟩
 .exact uE I hg m h hd
 .exact mV I hg m b h z hd
theorem Fly.fresh{B h:Heap}{e:Addr}{c:Value}{dx st:_}(bd:Body X)(I:Inv X pins σ H s)(k:Kp X H B s.heap)(F:Fly B X.stack e c dx st s.heap):H e=none/\X.s₀.heap.get? e=none/\∀p∈X.pn,p.1≠e:=by
 obtain⟨oe,vs,he,_,_,hv⟩:=F.obj;refine⟨?_,?_,fun p hp z=>?_⟩
 .cases z:H e with
  |none=>rfl
  |some u=>
   have:=k.trk e u oe z he;rw[F.new]at this;cases this
 .cases z:X.s₀.heap.get? e with
  |none=>rfl
  |some o=>
   by_cases hf:e∈X.fs
   .obtain⟨_,o1,z1,hn⟩:=I.funs.mem hf;exact absurd rfl (lP he hv z1 hn)
   .obtain⟨⟨o',q⟩,_⟩:=k.ent e o z hf;rw[F.new]at q;cases q
 .have:=k.pin p hp;rw[z,F.new]at this;cases this
noncomputable def aHX(X:Cx):Option Str->Option Nat->Prop
 |none,none=>True
 |some n,some i=>X.N.Nodup/\X.N[i]?=some n/\X.env.scope.names.lookup n=some .local
 |_,_=>False
theorem aBI{x:Str}{np pos:Pos}{nm:Option Str}{b₀:Stmt}{suite:List Stmt}{hs:List ExceptHandler}{h:HR}{rs:List HR}(bd:Body X)(hc:VC X x h.c)(hg:Gl X x)(hd:(x==("__debug__":Str))=false)
 (hn:aHX X nm h.n)
 (hS:∀e,PSs (hCx X e) (b₀::suite) h.t) (hR:UY X hs rs):UY X (.ExceptHandler (some (.Name x np)) nm (b₀::suite) pos::hs) (h::rs):=by
 intro pins D e c dx σ H s B E ok I k F hq;obtain⟨b,hb,hq⟩:=hq;have bp:Body (yB X pins):=⟨bd.stk,bd.fr,bd.ex⟩;obtain⟨oe,vs,he,hoc,_,hv⟩:=F.obj;have LT:PySem.W.Looks (model X.prog X.w) s.heap (typeOf (.ref e)) c:=hoc▸(PySem.W.Looks.ld he).andThen .now;have IH:=(I.ofP ok).toH e;have hA:(hCx X e).A=X.A.mark (some (.ref e)):=rfl;refine wpAny_handleBy_cons (codeAny_handlers_test (aGL (X:=hCx X e) hc IH hg hd ?_)) (by intro z;cases z);refine(PySem.W.exm_one IH.kIn LT hb).here ?_;cases b with
 |false=>exact hR pins D e c dx σ H s B E ok I k F hq
 |true=>
  rw[A3 rfl]at hq;have F':Fly B (yB X pins).stack e c dx (some .none) s.heap:=F
  have go:∀(P:Shared->Prop),(∀s',Inv X pins σ (upd H e (.ext (IV e c dx false))) s'->P s')->wpAny (model X.prog X.w) (X.A.mark (some (.ref e))) (setFlight (.ref e) none) (fun _ s1=>P s1) (notedBy (model X.prog X.w) (X.A.mark (some (.ref e))) X.env fun x s'=>cameBackBy (model X.prog X.w) X.A X.env E x s') s:=fun P hP=>by
   refine yQ (fo:=none) F' fun h1 F1 u1=>hP _ ?_;obtain⟨I1,k1⟩:=I.up bp k F1.stays u1;obtain⟨n1,n2,n3⟩:=Fly.fresh (s:={ s with heap:=h1 }) (h:=h1) bp I1 k1 F1;obtain⟨oe1,vs1,he1,hc1,hd1,hv1⟩:=F1.obj;have I2:=Inv.track I1 he1 hv1 n1 n2 fun p hp=>n3 p (by rw[C4]at hp;exact hp);rw[hc1,hd1]at I2;exact I2.ofP ok
  have hne:H e=none:=(Fly.fresh (h:=s.heap) bp I k F').1;have q0:=hq e hne;cases nm with
  |none=>
   cases hni:h.n with
   |some i=>rw[hni]at hn;exact False.elim hn
   |none=>
    rw[hni]at q0;refine codeAny_handlers_suite (go _ fun s1 I1=>?_);refine E1 (hS e pins s1 σ _ (ZR D none) (I1.toH e) q0) (fun f s2 z=>?_) fun _ _ z=>z.elim;cases f with
    |next=>obtain⟨σ',H',I',q⟩:=z;exact⟨σ',H',I'.ofH ok,q⟩
    |brk=>obtain⟨σ',H',I',q⟩:=z;exact⟨σ',H',I'.ofH ok,q⟩
    |cont=>obtain⟨σ',H',I',q⟩:=z;exact⟨σ',H',I'.ofH ok,q⟩
    |ret u=>obtain⟨v,σ',H',I',r,q⟩:=z;exact⟨v,σ',H',I'.ofH ok,r,q⟩
  |some n=>
   cases hni:h.n with
   |none=>rw[hni]at hn;exact False.elim hn
   |some i=>
    rw[hni]at hn q0;obtain⟨nd,hi,lo⟩:=hn;refine codeAny_handlers_suite_as (go _ fun s1 I1=>?_);refine qT (X:=X) I1 nd hi (.inl lo) (v:=.ref e) rfl (fun s2 I2=>?_) (.inr lo);refine E1 (hS e pins s2 _ _ (ZR D (some i)) (I2.toH e) q0) (fun f s3 z=>?_) fun _ _ z=>z.elim;show wpAny _ _ _ (fun _ s₃=>SP X pins D f s₃) E s3;cases f with
    |next=>obtain⟨σ',H',I',q⟩:=z;exact rP (I'.ofH ok) nd hi lo fun s4 I4=>⟨_,H',I4,q⟩
    |brk=>obtain⟨σ',H',I',q⟩:=z;exact rP (I'.ofH ok) nd hi lo fun s4 I4=>⟨_,H',I4,q⟩
    |cont=>obtain⟨σ',H',I',q⟩:=z;exact rP (I'.ofH ok) nd hi lo fun s4 I4=>⟨_,H',I4,q⟩
    |ret u=>obtain⟨v,σ',H',I',r,q⟩:=z;exact rP (I'.ofH ok) nd hi lo fun s4 I4=>⟨v,_,H',I4,r,q⟩
noncomputable def aDW(K:Fg)(tb:(St->XK)->TS)(rs:List HR):TS:=fun D σ H=>tb (tHs K D rs) D σ H
theorem aFB{body:List Stmt}{h₀:ExceptHandler}{hs:List ExceptHandler}{pos:Pos}{tb:(St->XK)->TS}{rs:List HR}(bd:Body X)
 (hb:∀pins EE,PSs ((yB X pins).wish (XS (yB X pins) EE)) body (tb EE)) (hh:UY X (h₀::hs) rs):PS X (.Try body (h₀::hs) [] [] pos) (aDW X.K tb rs):=by
 intro pins s σ H D I h;have bp:Body (yB X pins):=⟨bd.stk,bd.fr,bd.ex⟩;refine wpAny_Try_except (E1 (hb pins (tHs X.K D rs) [] s σ H D (I.toP.wish _) h) (fun f s1 z=>?_) fun ev s1 z=>?_)
 .cases f with
  |next=>obtain⟨σ',H',I',q⟩:=z;exact A0h ⟨σ',H',I'.unwish.ofP I.ok,q⟩
  |brk=>obtain⟨σ',H',I',q⟩:=z;exact⟨σ',H',I'.unwish.ofP I.ok,q⟩
  |cont=>obtain⟨σ',H',I',q⟩:=z;exact⟨σ',H',I'.unwish.ofP I.ok,q⟩
  |ret u=>obtain⟨v,σ',H',I',r,q⟩:=z;exact⟨v,σ',H',I'.unwish.ofP I.ok,r,q⟩
 .obtain⟨e,c,dx,st,σ1,H1,B,rfl,I1,k1,F1,hst,q⟩:=z;have hf:=I1.ok.frames;have F1':=F1;rw[bp.stk]at F1' hf;refine GA hf bp.fr F1' hst fun h2 F2 u2=>yQ (s:={ s1 with heap:=h2 }) (fo:=none) F2 fun h3 F3 u3=>?_;obtain⟨I2,k2⟩:=I1.up bp k1 F2.stays u2;obtain⟨I3,k3⟩:=I2.up bp k2 F3.stays u3;exact hh pins D e c dx σ1 H1 _ B _ I.ok I3 k3 (by rw[bd.stk];exact F3) q
end
structure Exc where
 nm:Str
 fs:List (Str×CD)
inductive Rs where
 |v (x:CD)|x (e:Exc)
inductive aGH where
 |o (o:Out)|xc (γ:Ga) (e:Exc)
noncomputable abbrev EX:=Ga->Sto->Option (Rs×Sto)
noncomputable abbrev AX:=Ga->Sto->Option ((List CD ⊕ Exc)×Sto)
noncomputable abbrev SFX:=Ga->Sto->Option (aGH×Sto)
noncomputable abbrev FX:=List CD->Sto->Option (Rs×Sto)
section
variable(K:Fg)
noncomputable def ExR(W:Wd)(ex:Exc)(c:Value)(dx:Option Addr):Prop:=c=.ref (dD K ex.nm)/\KC K W dx ex.fs
noncomputable def aDg(E:XK)(Q:VK)(W:Wd)(H:Hp):Rs->Prop
 |.v x=>∀v,cH K W x v->Q v H
 |.x ex=>∀c dx,ExR K W ex c dx->E c dx H
noncomputable def SEX(EE:St->XK)(t:TE)(f:EX):Prop:=∀γ M r M',f γ M=some (r,M')->∀(W:Wd)(H:Hp)(σ:St)(Q:VK),Good K W M H->dC K W γ σ->(∀W' H',W.Ext W'->Good K W' M' H'->aDg K (EE σ) Q W' H' r)->t σ H Q
noncomputable def aIy(E:XK)(Q:List V->Hp->Prop)(W:Wd)(H:Hp):List CD ⊕ Exc->Prop
 |.inl xs=>∀vs,cA K W xs vs->Q vs H
 |.inr ex=>∀c dx,ExR K W ex c dx->E c dx H
noncomputable def SAX(EE:St->XK)(t:TA)(f:AX):Prop:=∀γ M r M',f γ M=some (r,M')->∀(W:Wd)(H:Hp)(σ:St)(Q:List V->Hp->Prop),Good K W M H->dC K W γ σ->(∀W' H',W.Ext W'->Good K W' M' H'->aIy K (EE σ) Q W' H' r)->t σ H Q
noncomputable def aHc(EE:St->XK)(D:Ends)(W:Wd)(H:Hp):aGH->Prop
 |.o o=>aAa K D W H o
 |.xc γ ex=>∀σ c dx,dC K W γ σ->ExR K W ex c dx->EE σ c dx H
noncomputable def SSX(EE:St->XK)(t:TS)(f:SFX):Prop:=∀γ M o M',f γ M=some (o,M')->∀(W:Wd)(H:Hp)(σ:St)(D:Ends),Good K W M H->dC K W γ σ->(∀W' H',W.Ext W'->Good K W' M' H'->aHc K EE D W' H' o)->t D σ H
noncomputable def spX(f:FX):Sp:=fun vs H Q E=>∃xs M W r M',Good K W M H/\cA K W xs vs/\f xs M=some (r,M')/\∀W' H',W.Ext W'->Good K W' M' H'->aDg K E Q W' H' r
end
noncomputable def liE(f:EF):EX:=fun γ M=>(f γ M).bind fun r=>some (.v r.1,r.2)
noncomputable def liA(f:AF):AX:=fun γ M=>(f γ M).bind fun r=>some (.inl r.1,r.2)
noncomputable def liS(f:SF):SFX:=fun γ M=>(f γ M).bind fun r=>some (.o r.1,r.2)
noncomputable def xCons(f:EX)(g:AX):AX:=fun γ M=>(f γ M).bind fun r=>match r.1 with
 |.x e=>some (.inr e,r.2)
 |.v x=>(g γ r.2).bind fun q=>match q.1 with
  |.inr e=>some (.inr e,q.2)
  |.inl xs=>some (.inl (x::xs),q.2)
noncomputable def aHY(f:EX)(k:CD->Sto->Option (Rs×Sto)):EX:=fun γ M=>(f γ M).bind fun r=>match r.1 with
 |.x e=>some (.x e,r.2)
 |.v x=>k x r.2
noncomputable def QG(f:AX)(k:List CD->Sto->Option (Rs×Sto)):EX:=fun γ M=>(f γ M).bind fun r=>match r.1 with
 |.inr e=>some (.x e,r.2)
 |.inl xs=>k xs r.2
noncomputable def okR(o:Option (CD×Sto)):Option (Rs×Sto):=o.bind fun r=>some (.v r.1,r.2)
noncomputable def pG(h:FX)(f:AX):EX:=QG f h
noncomputable def jE(f g:SFX):SFX:=fun γ M=>(f γ M).bind fun r=>match r.1 with
 |.o (.nx γ')=>g γ' r.2
 |o=>some (o,r.2)
noncomputable def aIM(f:EX):SFX:=fun γ M=>(f γ M).bind fun r=>match r.1 with
 |.x e=>some (.xc γ e,r.2)
 |.v x=>some (.o (.rt x),r.2)
noncomputable def jW(f:EX):SFX:=fun γ M=>(f γ M).bind fun r=>match r.1 with
 |.x e=>some (.xc γ e,r.2)
 |.v _=>some (.o (.nx γ),r.2)
noncomputable def aIK(f:EX)(g:GF):SFX:=fun γ M=>(f γ M).bind fun r=>match r.1 with
 |.x e=>some (.xc γ e,r.2)
 |.v x=>(g x γ r.2).bind fun q=>some (.o (.nx q.1),q.2)
noncomputable def LO(c:TF)(f g:SFX):SFX:=fun γ M=>(c γ M).bind fun r=>if r.1=true then f γ r.2 else g γ r.2
noncomputable def tD(nm:Str):SFX:=fun γ M=>some (.xc γ ⟨nm,[]⟩,M)
noncomputable def fnX(ps N:Nat)(b:SFX):FX:=fun xs M=>if xs.length=ps then(b (xs.map some++List.replicate (N-xs.length) none) M).bind fun r=>match r.1 with
 |.o (.rt x)=>some (.v x,r.2)
 |.o (.nx _)=>some (.v (.d .none),r.2)
 |.xc _ e=>some (.x e,r.2)
 |_=>none else none
noncomputable def YO:Option Nat->Ga->Ga
 |none,γ=>γ
 |some i,γ=>γ.set i none
noncomputable def setG:Option Nat->Ga->CD->Ga
 |none,γ,_=>γ
 |some i,γ,x=>γ.set i (some x)
noncomputable def aFC(n:Option Nat):Out->Out
 |.nx γ=>.nx (YO n γ)
 |.bk γ=>.bk (YO n γ)
 |.ct γ=>.ct (YO n γ)
 |.rt x=>.rt x
structure HMi where
 tab:List (Str×Bool)
 n:Option Nat
 f:SF
noncomputable def FH:List HMi->Ga->Exc->Sto->Option (Out×Sto)
 |[],_,_,_=>none
 |h::r,γ,ex,M=>match h.tab.lookup ex.nm with
  |some true=>(h.f (setG h.n γ (.c M.length)) (M++[.exc false ex.nm ex.fs])).bind fun q=>some (aFC h.n q.1,q.2)
  |some false=>FH r γ ex M
  |none=>none
noncomputable def TX(b:SFX)(hs:List HMi):SF:=fun γ M=>(b γ M).bind fun r=>match r.1 with
 |.o o=>some (o,r.2)
 |.xc γ' ex=>FH hs γ' ex r.2
section
variable{K:Fg}{EE:St->XK}{ta tb:TE}{tA:TA}{t u:TS}{f g:EX}{fa:AX}{p q:SFX}{tt:TT}{ft:TF}{tg:TG}{hg:GF}
theorem aFX{f:AF}(a:SA K tA f):SAX K EE tA (liA f):=by
 intro γ M r M' h W H σ Q G R k;obtain⟨⟨x,M1⟩,h1,h⟩:=aH h;cases h;exact a _ _ _ _ h1 W H σ Q G R fun v W' H' e G' rv=>k W' H' e G' v rv
theorem aHk{f:SF}(a:SS K t f):SSX K EE t (liS f):=by
 intro γ M r M' h W H σ D G R k;obtain⟨⟨x,M1⟩,h1,h⟩:=aH h;cases h;exact a _ _ _ _ h1 W H σ D G R fun W' H' e G'=>k W' H' e G'
theorem aAD{h:FX}(a:SAX K EE tA fa):SEX K EE (FE (spX K h) EE tA) (pG h fa):=by
 intro γ M r M' hh W H σ Q G R k;obtain⟨⟨x,M1⟩,h1,hh⟩:=aH hh;refine a _ _ _ _ h1 W H σ _ G R fun W1 H1 e1 G1=>?_;cases x with
 |inr e=>cases hh;exact k W1 H1 e1 G1
 |inl xs=>exact fun vs rs=>⟨xs,M1,W1,r,M',G1,rs,hh,fun W2 H2 e2 G2=>k W2 H2 (e1.trans e2) G2⟩
theorem aBv(a:SSX K EE t p)(b:SSX K EE u q):SSX K EE (aFH t u) (jE p q):=by
 intro γ M o M' hh W H σ D G R k;obtain⟨⟨x,M1⟩,h1,hh⟩:=aH hh;refine a _ _ _ _ h1 W H σ _ G R fun W1 H1 e1 G1=>?_;cases x with
 |xc γ' e=>cases hh;exact k W1 H1 e1 G1
 |o x=>
  cases x with
  |nx γ'=>exact fun σ' R'=>b _ _ _ _ hh W1 H1 σ' D G1 R' fun W2 H2 e2 G2=>k W2 H2 (e1.trans e2) G2
  |bk γ'=>cases hh;exact k W1 H1 e1 G1
  |ct γ'=>cases hh;exact k W1 H1 e1 G1
  |rt x=>cases hh;exact k W1 H1 e1 G1
theorem YW(a:SEX K EE ta f):SSX K EE (VE ta) (jW f):=by
 intro γ M o M' hh W H σ D G R k;obtain⟨⟨x,M1⟩,h1,hh⟩:=aH hh;refine a _ _ _ _ h1 W H σ _ G R fun W1 H1 e1 G1=>?_;cases x with
 |x e=>cases hh;exact fun c dx z=>k W1 H1 e1 G1 σ c dx (R.up e1) z
 |v x=>cases hh;exact fun v rv=>k W1 H1 e1 G1 σ (R.up e1)
theorem aGz(c:STt K tt ft)(a:SSX K EE t p)(b:SSX K EE u q):SSX K EE (aGk tt t u) (LO ft p q):=by
 intro γ M o M' hh W H σ D G R k;obtain⟨⟨x,M1⟩,h1,hh⟩:=aH hh;refine c _ _ _ _ h1 W H σ _ G R fun W1 H1 e1 G1=>?_;cases x with
 |true=>rw[A3 rfl];rw[A3 rfl]at hh;exact a _ _ _ _ hh W1 H1 σ D G1 (R.up e1) fun W2 H2 e2 G2=>k W2 H2 (e1.trans e2) G2
 |false=>rw[A7 A8];rw[A7 A8]at hh;exact b _ _ _ _ hh W1 H1 σ D G1 (R.up e1) fun W2 H2 e2 G2=>k W2 H2 (e1.trans e2) G2
theorem RB{nm:Str}:SSX K EE (IC EE (dD K nm)) (tD nm):=by
 intro γ M o M' hh W H σ D G R k;cases hh;exact k W H (.refl _) G σ _ none R ⟨rfl,rfl⟩
theorem dC.setN{γ:Ga}{n:Option Nat}{x:CD}{v:V}(R:dC K W γ σ)(r:cH K W x v):dC K W (setG n γ x) (setN n σ v):=by
 cases n with
 |none=>exact R
 |some i=>exact Paired.set (x:=some x) (y:=some v) r i R
theorem dC.unbN{γ:Ga}{n:Option Nat}(R:dC K W γ σ):dC K W (YO n γ) (unbN n σ):=by
 cases n with
 |none=>exact R
 |some i=>exact Paired.set (x:=none) (y:=none) True.intro i R
inductive HsM(K:Fg):List HR->List HMi->Prop
 |nil:HsM K [] []
 |cons {h:HR} {m:HMi} {hs:List HR} {ms:List HMi} (hn:h.n=m.n) (ht:∀nm b,m.tab.lookup nm=some b->PySem.W.exmOne K (.ref (dD K nm)) h.c=some b) (hS:SS K h.t m.f) (r:HsM K hs ms):HsM K (h::hs) (m::ms)
theorem aAv{D:Ends}{W:Wd}{M M':Sto}{H:Hp}{γ:Ga}{σ:St}{ex:Exc}{c:Value}{dx:Option Addr}{o:Out}(G:Good K W M H)(R:dC K W γ σ)(E:ExR K W ex c dx):
 ∀{hs:List HR}{ms:List HMi},HsM K hs ms->FH ms γ ex M=some (o,M')->(∀W' H',W.Ext W'->Good K W' M' H'->aAa K D W' H' o)->tHs K D hs σ c dx H
 |_,_,.nil=>fun h _=>by cases h
 |_,_,@HsM.cons _ h m hs ms hn ht hS r=>fun hh k=>by
  obtain⟨rfl,rx⟩:=E;unfold FH at hh;cases e:m.tab.lookup ex.nm with
  |none=>rw[e]at hh;cases hh
  |some b=>
   rw[e]at hh;refine⟨b,ht _ _ e,?_⟩;cases b with
   |false=>rw[A7 A8];exact aAv G R ⟨rfl,rx⟩ r hh k
   |true=>
    rw[A3 rfl];intro a ha;obtain⟨⟨o1,M1⟩,h1,hh⟩:=aH (show(m.f _ _).bind _=_ from hh);have hh':some (aFC m.n o1,M1)=some (o,M'):=hh;cases hh';have G':Good K (W.more a) (M++[.exc false ex.nm ex.fs]) (upd H a (.ext (IV a (.ref (dD K ex.nm)) dx false))):=G.new ha ⟨dx,rfl,rx⟩;have e1:=W.ext_more a;have ra:cH K (W.more a) (.c M.length) (.ref a):=⟨by show M.length<W.n+1;rw[G.n];exact J5 _,by show _=V.ref (if M.length=W.n then a else _);rw[A3 G.n.symm]⟩;rw[hn];refine hS _ _ _ _ h1 (W.more a) _ _ _ G' ((R.up e1).setN ra) fun W2 H2 e2 G2=>?_;have kk:=k W2 H2 (e1.trans e2) G2;cases o1 with
    |nx γ2=>exact fun σ2 R2=>kk _ R2.unbN
    |bk γ2=>exact fun σ2 R2=>kk _ R2.unbN
    |ct γ2=>exact fun σ2 R2=>kk _ R2.unbN
    |rt x=>exact kk
theorem aGN{tb:(St->XK)->TS}{rs:List HR}{ms:List HMi}(b:∀EE,SSX K EE (tb EE) p)(h:HsM K rs ms):SS K (aDW K tb rs) (TX p ms):=by
 intro γ M o M' hh W H σ D G R k;obtain⟨⟨x,M1⟩,h1,hh⟩:=aH hh;refine b _ _ _ _ _ h1 W H σ D G R fun W1 H1 e1 G1=>?_;cases x with
 |o x=>cases hh;exact k W1 H1 e1 G1
 |xc γ' ex=>exact fun σ' c dx R' E=>aAv G1 R' E h hh fun W2 H2 e2 G2=>k W2 H2 (e1.trans e2) G2
end
section
variable{ι:Type}
structure MX(K:Fg)(X:ι->Cx)(EE:ι->St->XK)(e:Expr)(f:EX):Prop where
 ex:∃t:ι->TE,(∀i,PE (X i) e (t i))/\∀i,SEX K (EE i) (t i) f
structure MAX(K:Fg)(X:ι->Cx)(EE:ι->St->XK)(es:List Expr)(f:AX):Prop where
 ex:∃t:ι->TA,(∀i,PA (X i) es (t i))/\∀i,SAX K (EE i) (t i) f
 st:JO es
structure MSX(K:Fg)(X:ι->Cx)(EE:ι->St->XK)(st:Stmt)(f:SFX):Prop where
 ex:∃t:ι->TS,(∀i,PS (X i) st (t i))/\∀i,SSX K (EE i) (t i) f
structure MLX(K:Fg)(X:ι->Cx)(EE:ι->St->XK)(st:List Stmt)(f:SFX):Prop where
 ex:∃t:ι->TS,(∀i,PSs (X i) st (t i))/\∀i,SSX K (EE i) (t i) f
variable{K:Fg}{X:ι->Cx}{EE:ι->St->XK}{e a b c tg iter:Expr}{es:List Expr}{f g:EX}{fa:AX}{p q:SFX}{ft:TF}{gf:GF}{st:Stmt}{sts sts':List Stmt}{pos:Pos}
theorem zS{f:AF}(x:MA K X es f):MAX K X EE es (liA f):=by
 obtain⟨t,x1,x2⟩:=x.ex;exact⟨⟨fun _=>t,x1,fun _=>aFX x2⟩,x.st⟩
theorem AY{f:SF}(x:ML K X sts f):MLX K X EE sts (liS f):=by
 obtain⟨t,x1,x2⟩:=x.ex;exact⟨fun _=>t,x1,fun _=>aHk x2⟩
theorem uX{k:Nat}{x:Str}{ps:List Str}{F:FX}{p:Pos}(ok:∀i,XOk (X i) (EE i))(C:∀i,kG (X i).prog (X i).w (X i).K (X i).mg (X i).base k x ps (spX K F))(hr:∀i,eE k (X i).A)(y:MAX K X EE (e::es) fa)(hg:∀i,Gl (X i) x:=by intro _;rfl)(hd:(x==("__debug__":Str))=false:=by decide):
 MX K X EE (.Call (.Name x p) (e::es) [] pos) (pG F fa):=by
 obtain⟨u,y1,y2⟩:=y.ex;exact⟨_,fun i=>aCM (ok i) (C i) (hr i) (y1 i) (hg i) hd (y.st.1 _) (y.st.2.plain _ _),fun i=>aAD (y2 i)⟩
theorem lZ(x:MSX K X EE st p):MLX K X EE [st] p:=by
 obtain⟨t,x1,x2⟩:=x.ex;exact⟨t,fun i=>PJ (x1 i),x2⟩
theorem uA(x:MSX K X EE st p)(y:MLX K X EE sts q):MLX K X EE (st::sts) (jE p q):=by
 obtain⟨t,x1,x2⟩:=x.ex;obtain⟨u,y1,y2⟩:=y.ex;exact⟨_,fun i=>KI (x1 i) (y1 i),fun i=>aBv (x2 i) (y2 i)⟩
theorem qC(x:MX K X EE e f)(hs:∀i,swapsWith e none pos.line (X i).env=pure false:=by intro _;rfl):MSX K X EE (.Expr e pos) (jW f):=by
 obtain⟨t,x1,x2⟩:=x.ex;exact⟨_,fun i=>PK (x1 i) (hs i),fun i=>YW (x2 i)⟩
theorem HZ(x:MT K X c ft)(y:MLX K X EE sts p)(z:MLX K X EE sts' q):MSX K X EE (.If c sts sts' pos) (LO ft p q):=by
 obtain⟨t,x1,x2⟩:=x.ex;obtain⟨u,y1,y2⟩:=y.ex;obtain⟨v,z1,z2⟩:=z.ex;exact⟨_,fun i=>aDo (x1 i) (y1 i) (z1 i),fun i=>aGz x2 (y2 i) (z2 i)⟩
theorem tS{x:Str}{np cpos:Pos}(ok:∀i,XOk (X i) (EE i))(hK:∀i,(X i).K=K)(hc:∀i,(X i).calm=true)(hm:∀i,(X i).mg x=some (.ref (dD K x)))(q:PySem.W.excIn K (dD K x) bmV "ValueError.__new__"=true)(hg:∀i,Gl (X i) x:=by intro _;rfl)(hd:(x==("__debug__":Str))=false:=by decide):
 MSX K X EE (.Raise (some (.Call (.Name x np) [] [] cpos)) none pos) (tD x):=
 ⟨fun i=>IC (EE i) (dD K x),fun i=>TZ (ok i) (hc i) (hm i) (by rw[hK i];exact q) (hg i) hd,fun _=>RB⟩
noncomputable def aHl(X:ι->Cx):ι×List (Addr×Obj)×(St->XK)->Cx:=fun j=>(yB (X j.1) j.2.1).wish (XS (yB (X j.1) j.2.1) j.2.2)
noncomputable def aHv:ι×List (Addr×Obj)×(St->XK)->St->XK:=fun j=>j.2.2
noncomputable def aJi(X:ι->Cx):ι×Addr->Cx:=fun j=>hCx (X j.1) j.2
theorem aDn(bd:∀i,Body (X i))(j:ι×List (Addr×Obj)×(St->XK)):XOk (aHl X j) (aHv (ι:=ι) j):=
 XOk.of (X:=yB (X j.1) j.2.1) ⟨(bd j.1).stk,(bd j.1).fr,(bd j.1).ex⟩ _
structure MH(K:Fg)(X:ι->Cx)(hs:List ExceptHandler)(ms:List HMi):Prop where
 ex:∃rs,(∀i,UY (X i) hs rs)/\HsM K rs ms
theorem aEA:MH K X [] []:=⟨[],fun _=>aFA,.nil⟩
theorem PY{x:Str}{np hp:Pos}{nm:Option Str}{b₀:Stmt}{suite:List Stmt}{hs:List ExceptHandler}{ms:List HMi}{tab:List (Str×Bool)}{n:Option Nat}{f:SF}(cv:Value)(bd:∀i,Body (X i))(hc:∀i,VC (X i) x cv)
 (hn:∀i,aHX (X i) nm n)
 (ht:∀p∈tab,PySem.W.exmOne K (.ref (dD K p.1)) cv=some p.2) (hS:ML K (aJi X) (b₀::suite) f) (r:MH K X hs ms) (hg:∀i,Gl (X i) x:=by intro _;rfl) (hd:(x==("__debug__":Str))=false:=by decide):
 MH K X (.ExceptHandler (some (.Name x np)) nm (b₀::suite) hp::hs) (⟨tab,n,f⟩::ms):=by
 obtain⟨t,h1,h2⟩:=hS.ex;obtain⟨rs,r1,r2⟩:=r.ex;refine⟨⟨cv,n,t⟩::rs,fun i=>aBI (h:=⟨cv,n,t⟩) (bd i) (hc i) (hg i) hd (hn i) (fun e=>h1 (i,e)) (r1 i),.cons rfl (fun nm b z=>?_) h2 r2⟩;exact ht (nm,b) (F4 z)
theorem aGi{h₀:ExceptHandler}{hs:List ExceptHandler}{ms:List HMi}(bd:∀i,Body (X i))(hK:∀i,(X i).K=K)(x:MLX K (aHl X) (aHv (ι:=ι)) sts p)(h:MH K X (h₀::hs) ms):MS K X (.Try sts (h₀::hs) [] [] pos) (TX p ms):=by
 obtain⟨rs,r1,r2⟩:=h.ex;obtain⟨t,x1,x2⟩:=x.ex;refine⟨aDW K (fun EE D σ H=>∀i pins,t (i,pins,EE) D σ H) rs,fun i=>?_,aGN (fun EE=>?_) r2⟩
 .have:=aFB (X:=X i) (tb:=fun EE D σ H=>∀i pins,t (i,pins,EE) D σ H) (pos:=pos) (bd i) (fun pins EE ps s σ H D I h=>x1 (i,pins,EE) ps s σ H D I (h i pins)) (r1 i);rw[hK i]at this;exact this
 .exact fun γ M o M' hh W H σ D G R k i pins=>x2 (i,pins,EE) γ M o M' hh W H σ D G R k
section
variable{P:Program}{w:World}{K:Fg}{mg:Str->Option Value}{base:Heap}
noncomputable abbrev aGv(P:Program)(w:World)(K:Fg)(mg:Str->Option Value)(base:Heap)(N:List Str)(x:Str)(st:Stmt)(f:Addr)(cdv:Value)(A:Around)(outer:List Env)(s:Shared)(H:Hp)(E:XK):Unit->Cx:=fun _=>
 (oO (CX1 P w) P w K mg base N x (aI st) f cdv A outer s H E).wish (XS (oO (CX1 P w) P w K mg base N x (aI st) f cdv A outer s H E) fun _=>E)
theorem zB{N:List Str}{x:Str}{st:Stmt}{f:Addr}{cdv:Value}{A:Around}{outer:List Env}{s:Shared}{E:XK}(i:Unit):XOk (aGv P w K mg base N x st f cdv A outer s H E i) ((fun _ _=>E:Unit->St->XK) i):=XOk.of ON _
theorem Fun.okXF{x qual:Str}{st:Stmt}{N ps:List Str}{k:Nat}{b:SFX}{f:Addr}{fd:FuncData}(Fu:Fun K x qual st f fd)(S:aX N ps (aI st))
 (hbody:∀(f:Addr)(cdv:Value)(A:Around)(outer:List Env)(s:Shared)(H:Hp)(E:XK),eE k (A.deeper (envOfC qual (aI st) s.heap.objs.size f cdv))->
  MLX K (aGv P w K mg base N qual st f cdv A outer s H E) (fun _ _=>E) (dB st) b):oK P w K mg base (CX1 P w) (k+1) f fd ps (spX K (fnX ps.length N.length b)):=by
 obtain⟨oc,od,kV,doc,pm,an,cdv,ct,osl,rfl,lk,hcd⟩:=Fu.ex
 have len:∀vs H Q E,spX K (fnX ps.length N.length b) vs H Q E->vs.length=ps.length:=fun vs H Q E h=>by
  obtain⟨xs,M,W,y,M',G,R,hf,_⟩:=h;by_cases hl:xs.length=ps.length
  .rw[<- Paired.len R];exact hl
  .unfold fnX at hf;rw[A7 hl]at hf;cases hf
 refine aGJ lk hcd S len fun A outer s H vs Q E hr h=>?_;obtain⟨t,h1,h2⟩:=(hbody f cdv A outer s H E hr).ex;refine⟨t (),h1 (),?_⟩;obtain⟨xs,M,W,r,M',G,R,hf,kk⟩:=h
 have hl:xs.length=ps.length:=by
  by_cases hl:xs.length=ps.length
  .exact hl
  .unfold fnX at hf;rw[A7 hl]at hf;cases hf
 unfold fnX at hf;rw[A3 hl]at hf;obtain⟨⟨o,M1⟩,h3,hf⟩:=aH hf
 have hR:dC K W (xs.map some++List.replicate (N.length-xs.length) none) (start N vs):=by
  unfold start;rw[<- Paired.len R];exact Paired.app (cA.some R) (vN _)
 refine h2 () _ _ _ _ h3 W H _ _ G hR fun W1 H1 e1 G1=>?_;cases o with
 |xc γ e=>cases hf;exact fun σ c dx _ z=>kk W1 H1 e1 G1 c dx z
 |o o=>
  cases o with
  |rt x=>cases hf;exact fun v r=>kk W1 H1 e1 G1 v r
  |nx γ=>cases hf;exact fun σ r=>kk W1 H1 e1 G1 .non rfl
  |bk γ=>cases hf
  |ct γ=>cases hf
theorem Def.okX{x:Str}{st:Stmt}{N ps:List Str}{k:Nat}{b:SFX}(D:Def K mg x st)(S:aX N ps (aI st))
 (hb:∀(kV doc pm:Value)(an:Option Addr)(cdv ct:Value)(us:List Value),us.length=ps.length->bindArgs (PySem.W.fnOf x x (gW st) (dB st) (aI st) .none kV doc pm an cdv ct) ⟨us,[]⟩=pure (ps.zip us))
 (hbody:∀(f:Addr)(cdv:Value)(A:Around)(outer:List Env)(s:Shared)(H:Hp)(E:XK),eE k (A.deeper (envOfC x (aI st) s.heap.objs.size f cdv))->
  MLX K (aGv P w K mg base N x st f cdv A outer s H E) (fun _ _=>E) (dB st) b):kG P w K mg base (k+1) x ps (spX K (fnX ps.length N.length b)):=by
 obtain⟨f,fd,Fu,m⟩:=D.ex;exact⟨f,fd,Fu.okXF S hbody,m,Fu.kp,Fu.binds hb⟩
end
end
structure XC(K:Fg)(C:Addr):Prop where
 c:YK K C
 ha:PySem.W.findIn K (.ref C) "__class__"=some (some (.builtin "object.__class__"))
 hn:PySem.W.specialIn K (.builtin "object.__class__") "__get__"=some (some (.builtin "getset_descriptor.__get__"))
 htk:PySem.W.takesIn K (.builtin "object.__class__")=some true
 hm:PySem.W.mroIn K C (.type "object")=some true
noncomputable def aDU(H:Hp):Option Addr->Prop
 |none=>True
 |some d=>∃us,H d=some (.xd us)
inductive ClV:V->Value->Prop
 |own (C:Addr):ClV (.ref C) (.ref C)
 |ty (T:String):ClV (.ty T) (.type T)
theorem ClV.is{v:V}{c u:Value}(h:ClV v c)(r:RelV v u):u=c:=by cases h<;>exact r
noncomputable def XA(K:Fg):List V->Hp->VK->Prop:=fun xs H Q=>∃v cv c b,xs=[v,cv]/\ClV cv c/\Q (.bl b) H /\
 ((v=.non/\PySem.W.kitOne K (.type "NoneType") c=some b)\/∃a C dx fr,v=.ref a/\H a=some (.ext (IV a (.ref C) dx fr))/\aDU H dx/\XC K C/\PySem.W.kitOne K (.ref C) c=some b)
section
variable{X:Cx}{K:Fg}
theorem aAu{pins:List (Addr×Obj)}{s:Shared}{a C:Addr}{dx:Option Addr}{fr:Bool}(I:Inv X pins σ H s)(h:H a=some (.ext (IV a (.ref C) dx fr)))(d:aDU H dx):∃ox od,PySem.W.InstAt s.heap a ox C od/\ox.dict=dx:=by
 obtain⟨⟨o,vs,h1,h2,h3,h4,_⟩,_⟩:=I.hok a _ h
 have no:PySem.W.notCls o=true:=by
  obtain⟨_,_,dt,_⟩:=o;cases h4;rfl
 cases dx with
 |none=>exact⟨o,none,⟨h1,h2,no,by rw[h3];exact True.intro⟩,h3⟩
 |some d'=>
  obtain⟨us,hd⟩:=d;obtain⟨od,q⟩:=(I.hok d' _ hd).there;exact⟨o,some od,⟨h1,h2,no,by rw[h3];exact q⟩,h3⟩
theorem RJ:fV X (.builtin "isinstance") (XA X.K):=by
 intro pins s σ H vs us Q I r h;obtain⟨v,cv,c,b,rfl,rc,q,h⟩:=h;obtain⟨u,u',rfl,ru,ru'⟩:=vals2 r;cases rc.is ru';rcases h with⟨rfl,e⟩|⟨a,C,dx,fr,rfl,ha,d,xc,e⟩
 .cases (show u=Value.none from ru);exact PySem.W.kia_one PySem.W.kitx_none I.kIn True.intro e (fun z=>nomatch z) fun tk=>⟨.bl _,H,I.tok tk,rfl,q⟩
 .cases (show u=Value.ref a from ru);obtain⟨ox,od,J,_⟩:=aAu I ha d;exact PySem.W.kia_one (aAp xc.c xc.ha xc.hn xc.htk xc.hm) I.kIn ⟨ox,od,J⟩ e (fun z=>nomatch z) fun tk=>⟨.bl _,H,I.tok tk,rfl,q⟩
theorem aHE(h:X.K=K):fV X (.builtin "isinstance") (XA K):=by subst h;exact RJ
noncomputable def xE(tab:List (Str×Bool))(nn:Option Bool)(f:EF):EF:=fun γ M=>(f γ M).bind fun r=>match r.1 with
 |.c i=>(match r.2[i]? with
  |some (.exc _ nm _)=>(tab.lookup nm).bind fun b=>some (.d (.bool b),r.2)
  |_=>none)
 |.d .none=>nn.bind fun b=>some (.d (.bool b),r.2)
 |_=>none
theorem KC.ok{dx:Option Addr}{fs:List (Str×CD)}(r:KC K W dx fs)(s:jQ W.F H):aDU H dx:=by
 cases dx with
 |none=>exact True.intro
 |some d=>obtain⟨_,us,h,_⟩:=r;exact⟨us,s _ _ h⟩
theorem Good.excAt{M:Sto}{i:Nat}{fr:Bool}{nm:Str}{fs:List (Str×CD)}(G:Good K W M H)(h:M[i]?=some (.exc fr nm fs)):∃dx,H (W.α i)=some (.ext (IV (W.α i) (.ref (dD K nm)) dx fr))/\KC K W dx fs:=by
 obtain⟨_,o,h2,h3⟩:=G.cs i _ h (by intro z;cases z);cases o with
 |ext φ=>
  obtain⟨dx,rfl,r⟩:=h3;exact⟨dx,h2,r⟩
 |_=>exact False.elim h3
theorem aCd{tab:List (Str×Bool)}{nn:Option Bool}{ta:TE}{f:EF}{cv:V}{c:Value}(hc:ClV cv c)(ht:∀p∈tab,XC K (dD K p.1)/\PySem.W.kitOne K (.ref (dD K p.1)) c=some p.2)(hn:∀b,nn=some b->PySem.W.kitOne K (.type "NoneType") c=some b)
 (a:SE K ta f):SE K (tCB (XA K) (sJ ta (sJ (tC cv) RE))) (xE tab nn f):=by
 intro γ M x M' hh W H σ Q G R k;obtain⟨⟨y,M1⟩,h1,hh⟩:=aH hh;refine a _ _ _ _ h1 W H σ _ G R fun v W1 H1 e1 G1 r1=>?_;cases y with
 |t _=>cases hh
 |f _=>cases hh
 |c i=>
  dsimp only at hh;cases e:M1[i]? with
  |none=>rw[e]at hh;cases hh
  |some cl=>
   rw[e]at hh;cases cl with
   |exc fr nm fs=>
    obtain⟨b,h2,hh⟩:=aH (show(tab.lookup nm).bind _=_ from hh);cases hh;obtain⟨h3,h4⟩:=ht (nm,b) (F4 h2);obtain⟨dx,h5,h6⟩:=G1.excAt e;exact⟨v,cv,c,b,rfl,hc,k _ W1 H1 e1 G1 rfl,.inr ⟨_,_,dx,fr,r1.2,h5,h6.ok G1.fh,h3,h4⟩⟩
   |_=>cases hh
 |d y=>
  cases y with
  |none=>
   obtain⟨b,h2,hh⟩:=aH (show nn.bind _=_ from hh);cases hh;exact⟨v,cv,c,b,rfl,hc,k _ W1 H1 e1 G1 rfl,.inl ⟨r1,hn b h2⟩⟩
  |_=>cases hh
end
section
variable{ι:Type}{K:Fg}{X:ι->Cx}{a:Expr}{f:EF}{pos:Pos}
theorem NZ{y:Str}{C:Addr}(hm:∀i,(X i).mg y=some (.ref C))(hg:∀i,Gl (X i) y:=by intro _;rfl)(hd:(y==("__debug__":Str))=false:=by decide):∀i p',PE (X i) (.Name y p') (tC (.ref C)):=fun i _=>OQ (hg i) (hm i) rfl hd
theorem aDE{y:Str}{T:String}(hm:∀i,(X i).mg y=none)(hb:bootBuiltins y=some (.type T))(hg:∀i,Gl (X i) y:=by intro _;rfl)(hn:y≠"__name__":=by decide)(hd:(y==("__debug__":Str))=false:=by decide):∀i p',PE (X i) (.Name y p') (tC (.ty T)):=fun i _=>yI (v:=.ty T) (hg i) (hm i) hb rfl hn hd
theorem uZ{y:Str}{p p':Pos}{tab:List (Str×Bool)}{nn:Option Bool}{cv:V}{c:Value}(hK:∀i,(X i).K=K)(hc:ClV cv c)(hy:∀i p',PE (X i) (.Name y p') (tC cv))(ht:∀p∈tab,XC K (dD K p.1)/\PySem.W.kitOne K (.ref (dD K p.1)) c=some p.2)(hn:∀b,nn=some b->PySem.W.kitOne K (.type "NoneType") c=some b)
 (x:ME K X a f) (hs:aAF a [.Name y p']) (hm:∀i,(X i).mg "isinstance"=none) (hg:∀i,Gl (X i) "isinstance":=by intro _;rfl):ME K X (.Call (.Name "isinstance" p) [a,.Name y p'] [] pos) (xE tab nn f):=by
 obtain⟨t,x1,x2⟩:=x.ex;exact⟨_,fun i=>uK (aHE (hK i)) (hg i) (hm i) boot_isinstance (kD (x1 i) (kD (hy i _) zK bN) (hs _)) (by decide) (by decide) (hs _) (nX bN vQ),aCd hc ht hn x2⟩
end
noncomputable def iM(h:FX)(f:AF):EF:=fun γ M=>(f γ M).bind fun r=>(h r.1 r.2).bind fun q=>match q.1 with
 |.v x=>some (x,q.2)
 |.x _=>none
noncomputable def noX:St->XK:=fun _ _ _ _=>False
section
variable{X:Cx}{K:Fg}
theorem XW{k:Nat}{x:Str}{ps:List Str}{sp:Sp}{p pos:Pos}{e:Expr}{es:List Expr}{t:TA}(C:kG X.prog X.w X.K X.mg X.base k x ps sp)(hr:eE k X.A)(ha:PA X (e::es) t)(hg:Gl X x)
 (hdb:(x==("__debug__":Str))=false) (he:starEach (e::es) X.env=(false,eval e X.env)::starEach es X.env) (hpl:(backTo pos (starEach es X.env)).any (·.1)=false):
 PE X (.Call (.Name x p) (e::es) [] pos) (FE sp noX t):=by
 obtain⟨f,fd,F,m,kp,b⟩:=C.ex
 exact OJ (dvs:=[]) (E:=noX []) F hr hg m kp b .nil (fun _ _ _ _ _ _ _ h=>by obtain⟨_,_,_,_,_,_,_,_,_,_,_,_,_,z⟩:=h;exact z.elim) ha hdb he hpl |> fun h pins s σ H Q I hq=>h pins s σ H Q I (by
  show t σ H fun vs H1=>sp (vs++[]) H1 Q (noX []);simpa only[List.append_nil]using hq)
theorem SL{h:FX}{tA:TA}{fa:AF}(a:SA K tA fa):SE K (FE (spX K h) noX tA) (iM h fa):=by
 intro γ M x M' hh W H σ Q G R k;obtain⟨⟨xs,M1⟩,h1,hh⟩:=aH hh;obtain⟨⟨r,M2⟩,h2,hh⟩:=aH hh;refine a _ _ _ _ h1 W H σ _ G R fun vs W1 H1 e1 G1 r1=>?_;refine⟨xs,M1,W1,r,M2,G1,r1,h2,fun W2 H2 e2 G2=>?_⟩;cases r with
 |x e=>cases hh
 |v y=>cases hh;exact fun v rv=>k v W2 H2 (e1.trans e2) G2 rv
end
theorem nU{ι:Type}{X:ι->Cx}{e:Expr}{es:List Expr}{fa:AF}{pos:Pos}{k:Nat}{x:Str}{ps:List Str}{F:FX}{p:Pos}(C:∀i,kG (X i).prog (X i).w (X i).K (X i).mg (X i).base k x ps (spX K F))(hr:∀i,eE k (X i).A)(y:MA K X (e::es) fa)(hg:∀i,Gl (X i) x:=by intro _;rfl)(hd:(x==("__debug__":Str))=false:=by decide):
 ME K X (.Call (.Name x p) (e::es) [] pos) (iM F fa):=by
 obtain⟨u,y1,y2⟩:=y.ex;exact⟨_,fun i=>XW (C i) (hr i) (y1 i) (hg i) hd (y.st.1 _) (y.st.2.plain _ _),SL y2⟩
theorem pF:bootBuiltins "ValueError"=some (.type "ValueError"):=by decide +kernel
section
variable{K:Fg}{cv:Value}{a:Str}{b:Bool}{l:List (Str×Bool)}
theorem JG:∀p∈([]:List (Str×Bool)),PySem.W.exmOne K (.ref (dD K p.1)) cv=some p.2:=fun _ h=>absurd h (by simp)
theorem rQ(h:PySem.W.exmOne K (.ref (dD K a)) cv=some b)(r:∀p∈l,PySem.W.exmOne K (.ref (dD K p.1)) cv=some p.2):∀p∈(a,b)::l,PySem.W.exmOne K (.ref (dD K p.1)) cv=some p.2:=fun p hp=>by
 rcases List.mem_cons.mp hp with rfl|z
 .exact h
 .exact r p z
theorem vK{b:Bool}(h:PySem.W.kitOne K (.type "NoneType") cv=some b):∀c,some b=some c->PySem.W.kitOne K (.type "NoneType") cv=some c:=fun c e=>by cases e;exact h
theorem HM{nm:Str}{C:Addr}(h:PySem.W.nsIn K mainGlobals nm=some (some (.ref C))):dD K nm=C:=by unfold dD;rw[h]
end
mutual
noncomputable def snap:Nat->Sto->CD->Option PyData
 |_,_,.d x=>some x
 |0,_,.c _=>none
 |n+1,M,.c i=>match M[i]? with
  |some (.lst xs)=>(pV n M xs).bind fun ds=>some (.list ds)
  |_=>none
 |_,_,.f _=>none
 |0,_,.t _=>none
 |n+1,M,.t xs=>(pV n M (xs.map cdA)).bind fun ds=>some (.tuple ds)
noncomputable def pV:Nat->Sto->List CD->Option (List PyData)
 |_,_,[]=>some []
 |n,M,x::xs=>(snap n M x).bind fun d=>(pV n M xs).bind fun ds=>some (d::ds)
end
section
variable{K:Fg}{W:Wd}{M:Sto}{H:Hp}
theorem Good.lstAt'(G:Good K W M H){i:Nat}{xs:List CD}(h:M[i]?=some (.lst xs)):∃vs,H (W.α i)=some (.lst vs)/\cA K W xs vs:=by
 obtain⟨_,o,h2,h3⟩:=G.cs i _ h (by intro z;cases z);cases o with
 |lst vs=>exact⟨vs,h2,h3⟩
 |_=>exact False.elim h3
mutual
theorem AK(G:Good K W M H):∀(n:Nat)(x:CD)(d:PyData)(v:V),snap n M x=some d->cH K W x v->Rep K H d v
 |0,.d x=>fun d v h r=>by unfold snap at h;cases h;exact Rep.same G.fh _ _ r
 |n+1,.d x=>fun d v h r=>by unfold snap at h;cases h;exact Rep.same G.fh _ _ r
 |0,.c i=>fun d v h r=>by unfold snap at h;cases h
 |n+1,.c i=>fun d v h r=>by
  unfold snap at h;cases e:M[i]? with
  |none=>rw[e]at h;cases h
  |some c=>
   rw[e]at h;cases c with
   |lst xs=>
    obtain⟨ds,h1,h⟩:=aH (show(pV n M xs).bind _=_ from h);cases h;obtain⟨vs,h2,h3⟩:=G.lstAt' e;exact⟨W.α i,vs,r.2,SqL.of h2,wQ G n xs ds vs h1 h3⟩
   |_=>cases h
 |0,.f xs=>fun d v h r=>by unfold snap at h;cases h
 |n+1,.f xs=>fun d v h r=>by unfold snap at h;cases h
 |0,.t xs=>fun d v h r=>by unfold snap at h;cases h
 |n+1,.t xs=>fun d v h r=>by
  unfold snap at h;obtain⟨ds,h1,h⟩:=aH h;cases h;obtain⟨a,vs,rfl,h2,h3⟩:=r;exact⟨a,vs,rfl,SqT.of (G.fh _ _ h2),wQ G n _ ds vs h1 (OH h3)⟩
theorem wQ(G:Good K W M H):∀(n:Nat)(xs:List CD)(ds:List PyData)(vs:List V),pV n M xs=some ds->cA K W xs vs->aL K H ds vs
 |_,[]=>fun ds vs h r=>by
  unfold pV at h;cases h;cases r;rfl
 |n,x::xs=>fun ds vs h r=>by
  unfold pV at h;obtain⟨d,h1,h⟩:=aH h;obtain⟨es,h2,h⟩:=aH h;cases h;cases r with
  |@cons _ v _ vs' r1 r2=>exact⟨v,vs',rfl,AK G n x d v h1 r1,wQ G n xs es vs' h2 r2⟩
end
end
theorem VO{n:Nat}{M:Sto}{x:PyData}:snap n M (.d x)=some x:=by cases n<;>simp only[snap]
open PySem PySem.Spec PyProof.Rows PySem.Builtin PySem.Builtin.ObjectAttr
end L2
namespace L2
variable{W:Wd}{M:Sto}{H:Hp}
open PySem PySem.Spec PyProof.Rows
section
variable{K:Fg}
noncomputable def BO(K:Fg)(c:Value)(tab:List (Str×Bool)):Bool:=tab.all fun p=>match PySem.W.kitOne K (.ref (dD K p.1)) c with
 |some b=>b==p.2
 |none=>false
theorem vM{c:Value}{tab:List (Str×Bool)}{ns:List Str}(hx:∀nm∈ns,XC K (dD K nm))(h:BO K c tab=true)(e:tab.map Prod.fst=ns):∀p∈tab,XC K (dD K p.1)/\PySem.W.kitOne K (.ref (dD K p.1)) c=some p.2:=by
 intro p hp;refine⟨hx _ (by rw[<- e];exact List.mem_map_of_mem hp),?_⟩;have:=List.all_eq_true.mp h p hp;split at this
 .rename_i b hb;rw[hb,eq_of_beq this]
 .cases this
theorem aCp:∀nm∈([]:List Str),XC K (dD K nm):=fun _ h=>absurd h (by simp)
theorem IS{a:Str}{l:List Str}(x:XC K (dD K a))(r:∀nm∈l,XC K (dD K nm)):∀nm∈a::l,XC K (dD K nm):=fun p hp=>by
 rcases List.mem_cons.mp hp with rfl|z
 .exact x
 .exact r p z
end
noncomputable abbrev KY:=Key ⊕ List Key
noncomputable abbrev KF:=Ga->Sto->Option (KY×Sto)
noncomputable def UF(W:Wd):KY->V->Prop
 |.inl k,v=>v=kV k
 |.inr ks,v=>∃b,v=.ref b/\W.F b=some (.tup (ks.map kV))
theorem UF.up{W':Wd}{k:KY}{v:V}(h:UF W k v)(e:W.Ext W'):UF W' k v:=by
 cases k with
 |inl k=>exact h
 |inr ks=>obtain⟨b,h1,h2⟩:=h;exact⟨b,h1,e.ff _ _ h2⟩
section
variable{K:Fg}
noncomputable def SK(K:Fg)(t:TE)(f:KF):Prop:=∀γ M k M',f γ M=some (k,M')->∀(W:Wd)(H:Hp)(σ:St)(Q:VK),Good K W M H->dC K W γ σ->(∀v W' H',W.Ext W'->Good K W' M' H'->UF W' k v->Q v H')->t σ H Q
noncomputable def gA(f:EF):KF:=fun γ M=>(f γ M).bind fun r=>(keyOf r.1).bind fun k=>some (.inl k,r.2)
variable{t td ty tx tv:TE}{tA:TA}{f fo fx fv:EF}{fk:KF}{fa:AF}
theorem aEd(a:SE K t f):SK K t (gA f):=by
 intro γ M k M' hh W H σ Q G R c;obtain⟨⟨x,M1⟩,h1,hh⟩:=aH hh;obtain⟨k',h2,hh⟩:=aH hh;cases hh;exact a _ _ _ _ h1 W H σ _ G R fun v W1 H1 e1 G1 r1=>c v W1 H1 e1 G1 (DG h2 r1)
section
variable{κ:Type}[DecidableEq κ]
noncomputable def lkC(kvs:List (κ×CD))(k:κ):Option CD:=(kvs.find? fun kv=>decide (kv.1=k)).map (·.2)
noncomputable def putD(kvs:List (κ×CD))(k:κ)(v:CD):List (κ×CD):=
 if (kvs.any fun kv=>decide (kv.1=k))=true then kvs.map (fun kv=>if kv.1=k then(kv.1,v)else kv)else kvs++[(k,v)]
noncomputable abbrev PKV(K:Fg)(W:Wd)(kvs:List (κ×CD))(us:List (κ×V)):Prop:=Paired (fun p q=>p.1=q.1/\cH K W p.2 q.2) kvs us
theorem FQ{W:Wd}{k:κ}:∀{kvs:List (κ×CD)}{us:List (κ×V)},PKV K W kvs us->JM K W (lkC kvs k) (iO us k)
 |_,_,.nil=>True.intro
 |_,_,.cons (a:=p) (b:=q) (l₁:=ps) (l₂:=qs) r1 r2=>by
  by_cases h:p.1=k
  .have h':q.1=k:=r1.1▸h;rw[show lkC (p::ps) k=some p.2 by simp[lkC,List.find?_cons,h],show iO (q::qs) k=some q.2 by simp[iO,List.find?_cons,h']];exact r1.2
  .have h':¬q.1=k:=r1.1▸h;rw[show lkC (p::ps) k=lkC ps k by simp[lkC,List.find?_cons,h],show iO (q::qs) k=iO qs k by simp[iO,List.find?_cons,h']];exact FQ r2
theorem IP{W:Wd}{k:κ}:∀{kvs:List (κ×CD)}{us:List (κ×V)},PKV K W kvs us->(kvs.any fun kv=>decide (kv.1=k))=us.any fun kv=>decide (kv.1=k)
 |_,_,.nil=>rfl
 |_,_,.cons r1 r2=>by rw[S0,S0,IP r2,r1.1]
theorem JU{W:Wd}{k:κ}{x:CD}{v:V}(rv:cH K W x v):∀{kvs:List (κ×CD)}{us:List (κ×V)},PKV K W kvs us->PKV K W (kvs.map fun kv=>if kv.1=k then(kv.1,x)else kv) (us.map fun kv=>if kv.1=k then(kv.1,v)else kv)
 |_,_,.nil=>.nil
 |_,_,.cons (a:=p) (b:=q) r1 r2=>by
  rw[B7,B7];refine .cons ?_ (JU rv r2);by_cases h:p.1=k
  .rw[A3 h,A3 (r1.1▸h)];exact⟨r1.1,rv⟩
  .rw[A7 h,A7 (r1.1▸h)];exact r1
theorem DU{k:κ}{x:CD}{v:V}{kvs:List (κ×CD)}{us:List (κ×V)}(r:PKV K W kvs us)(rv:cH K W x v):PKV K W (putD kvs k x) (putK us k v):=by
 unfold putD putK;rw[IP r];split
 .exact JU rv r
 .exact Paired.app r (.cons ⟨rfl,rv⟩ .nil)
end
noncomputable def lkP(kvs:List (List Key×PyData))(k:List Key):Option PyData:=(kvs.find? fun kv=>decide (kv.1=k)).map (·.2)
theorem JC{W:Wd}{k:List Key}:∀{kvs:List (List Key×PyData)}{us:List (List Key×V)},Paired (fun p q=>p.1=q.1/\Rep K W.F p.2 q.2) kvs us->JM K W ((lkP kvs k).map .d) (iO us k)
 |_,_,.nil=>True.intro
 |_,_,.cons (a:=p) (b:=q) (l₁:=ps) (l₂:=qs) r1 r2=>by
  by_cases h:p.1=k
  .have h':q.1=k:=r1.1▸h;rw[show lkP (p::ps) k=some p.2 by simp[lkP,List.find?_cons,h],show iO (q::qs) k=some q.2 by simp[iO,List.find?_cons,h']];exact r1.2
  .have h':¬q.1=k:=r1.1▸h;rw[show lkP (p::ps) k=lkP ps k by simp[lkP,List.find?_cons,h],show iO (q::qs) k=iO qs k by simp[iO,List.find?_cons,h']];exact JC r2
noncomputable def atD(M:Sto):CD->KY->Option (Option CD)
 |.c i,.inl k=>match M[i]? with
  |some (.dk kvs)=>some (lkC kvs k)
  |_=>none
 |.c i,.inr ks=>match M[i]? with
  |some (.dt kvs)=>some (lkC kvs ks)
  |_=>none
 |.f kvs,.inr ks=>some ((lkP kvs ks).map .d)
 |_,_=>none
noncomputable def yH(M:Sto):CD->KY->CD->Option Sto
 |.c i,.inl k,x=>match M[i]? with
  |some (.dk kvs)=>if kvs.length<sizeLine then some (M.set i (.dk (putD kvs k x)))else none
  |_=>none
 |.c i,.inr ks,x=>match M[i]? with
  |some (.dt kvs)=>if kvs.length<sizeLine then some (M.set i (.dt (putD kvs ks x)))else none
  |_=>none
 |_,_,_=>none
theorem Good.dkAt{i:Nat}{kvs:List (Key×CD)}(G:Good K W M H)(h:M[i]?=some (.dk kvs)):∃us,H (W.α i)=some (.dK us)/\PKV K W kvs us:=by
 obtain⟨_,o,h2,h3⟩:=G.cs i _ h (by intro z;cases z);cases o<;>first|exact⟨_,h2,h3⟩|exact False.elim h3
theorem Good.dtAt{i:Nat}{kvs:List (List Key×CD)}(G:Good K W M H)(h:M[i]?=some (.dt kvs)):∃us,H (W.α i)=some (.dT us)/\PKV K W kvs us:=by
 obtain⟨_,o,h2,h3⟩:=G.cs i _ h (by intro z;cases z);cases o<;>first|exact⟨_,h2,h3⟩|exact False.elim h3
theorem HD{x:CD}{k:KY}{r:Option CD}{v y:V}(G:Good K W M H)(h:atD M x k=some r)(rx:cH K W x v)(ry:UF W k y):∃a o,v=.ref a/\uO H a y o/\JM K W r o:=by
 unfold atD at h;split at h
 .rename_i i k';split at h
  .rename_i kvs hk;cases h;obtain⟨us,h1,h2⟩:=G.dkAt hk;refine⟨_,_,rx.2,?_,FQ h2⟩;rw[show y=kV k' from ry];exact uO.k h1
  .cases h
 .rename_i i ks;split at h
  .rename_i kvs hk;cases h;obtain⟨us,h1,h2⟩:=G.dtAt hk;obtain⟨b,rfl,hb⟩:=ry;exact⟨_,_,rx.2,uO.t h1 (G.fh _ _ hb),FQ h2⟩
  .cases h
 .rename_i kvs ks;cases h;obtain⟨a,o,us,rfl,h1,h2⟩:=rx;obtain⟨b,rfl,hb⟩:=ry;exact⟨_,_,rfl,.inr ⟨us,ks,b,.inr ⟨o,G.fh _ _ h1⟩,rfl,G.fh _ _ hb,rfl⟩,JC h2⟩
 .cases h
theorem IU{M':Sto}{x z:CD}{k:KY}{v y u:V}(G:Good K W M H)(h:yH M x k z=some M')(rx:cH K W x v)(ry:UF W k y)(rz:cH K W z u):∃a H',v=.ref a/\AE H a y u H'/\Good K W M' H':=by
 unfold yH at h;split at h
 .rename_i z' i k';split at h
  .rename_i kvs hk;by_cases hl:kvs.length<sizeLine
   .rw[A3 hl]at h;cases h;obtain⟨us,h1,h2⟩:=G.dkAt hk;refine⟨_,_,rx.2,?_,G.set hk (by intro q;cases q) (o':=.dK (putK us k' u)) (DU h2 rz)⟩;rw[show y=kV k' from ry];exact AE.k h1 (by rw[<- Paired.len h2];exact hl)
   .rw[A7 hl]at h;cases h
  .cases h
 .rename_i z' i ks;split at h
  .rename_i kvs hk;by_cases hl:kvs.length<sizeLine
   .rw[A3 hl]at h;cases h;obtain⟨us,h1,h2⟩:=G.dtAt hk;obtain⟨b,rfl,hb⟩:=ry;exact⟨_,_,rx.2,AE.t h1 (G.fh _ _ hb) (by rw[<- Paired.len h2];exact hl),G.set hk (by intro q;cases q) (o':=.dT (putK us ks u)) (DU h2 rz)⟩
   .rw[A7 hl]at h;cases h
  .cases h
 .cases h
noncomputable def HN:EF:=fun _ M=>some (.c M.length,M++[.dk []])
noncomputable def lC(fo:EF)(fk:KF):EF:=fun γ M=>(fo γ M).bind fun o=>(fk γ o.2).bind fun k=>(atD k.2 o.1 k.1).bind fun r=>r.bind fun x=>some (x,k.2)
noncomputable def pN(neg:Bool)(fk:KF)(fo:EF):EF:=fun γ M=>(fk γ M).bind fun k=>(fo γ k.2).bind fun o=>(atD o.2 o.1 k.1).bind fun r=>some (.d (.bool (if neg then !r.isSome else r.isSome)),o.2)
noncomputable def kN(fo:EF)(fk:KF)(fv:EF):SF:=fun γ M=>(fv γ M).bind fun v=>(fo γ v.2).bind fun o=>(fk γ o.2).bind fun k=>(yH k.2 o.1 k.1 v.1).bind fun M'=>some (.nx γ,M')
theorem XX:SE K NW HN:=by
 intro γ M x M' hh W H σ Q G R k;cases hh;exact fun p hp=>k _ (W.more p) _ (W.ext_more p) (G.new hp (c:=.dk []) (o:=.dK []) .nil) G.newV
theorem aCx(a:SE K td fo)(b:SK K ty fk):SE K (aDe td ty) (lC fo fk):=by
 intro γ M x M' hh W H σ Q G R k;obtain⟨⟨o,M1⟩,h1,hh⟩:=aH hh;obtain⟨⟨ky,M2⟩,h2,hh⟩:=aH hh;obtain⟨r,h3,hh⟩:=aH hh;obtain⟨z,h4,hh⟩:=aH hh;cases hh;subst h4;refine a _ _ _ _ h1 W H σ _ G R fun v W1 H1 e1 G1 r1=>b _ _ _ _ h2 W1 H1 σ _ G1 (R.up e1) fun y W2 H2 e2 G2 r2=>?_;obtain⟨p,ov,ev,g,ro⟩:=HD G2 h3 (r1.up e2) r2;cases ov with
 |none=>exact False.elim ro
 |some u=>exact⟨p,u,ev,g,k u W2 H2 (e1.trans e2) G2 ro⟩
theorem DF{r:Option CD}{o:Option V}(h:JM K W r o):o.isSome=r.isSome:=by
 cases r<;>cases o<;>first|rfl|exact False.elim h
theorem aEn(b:SK K ty fk)(a:SE K td fo):SE K (aHP ty td) (pN false fk fo):=by
 intro γ M x M' hh W H σ Q G R k;obtain⟨⟨ky,M1⟩,h1,hh⟩:=aH hh;obtain⟨⟨o,M2⟩,h2,hh⟩:=aH hh;obtain⟨r,h3,hh⟩:=aH hh;cases hh;refine b _ _ _ _ h1 W H σ _ G R fun y W1 H1 e1 G1 r1=>a _ _ _ _ h2 W1 H1 σ _ G1 (R.up e1) fun v W2 H2 e2 G2 r2=>?_;obtain⟨p,ov,ev,g,ro⟩:=HD G2 h3 r2 (r1.up e2);refine⟨p,ov,ev,g,k _ W2 H2 (e1.trans e2) G2 ?_⟩;show _=V.bl r.isSome;rw[DF ro]
theorem UN(b:SK K ty fk)(a:SE K td fo):SE K (PR ty td) (pN true fk fo):=by
 intro γ M x M' hh W H σ Q G R k;obtain⟨⟨ky,M1⟩,h1,hh⟩:=aH hh;obtain⟨⟨o,M2⟩,h2,hh⟩:=aH hh;obtain⟨r,h3,hh⟩:=aH hh;cases hh;refine b _ _ _ _ h1 W H σ _ G R fun y W1 H1 e1 G1 r1=>a _ _ _ _ h2 W1 H1 σ _ G1 (R.up e1) fun v W2 H2 e2 G2 r2=>?_;obtain⟨p,ov,ev,g,ro⟩:=HD G2 h3 r2 (r1.up e2);refine⟨p,ov,ev,g,k _ W2 H2 (e1.trans e2) G2 ?_⟩;show _=V.bl (!r.isSome);rw[DF ro]
theorem aCa(a:SE K td fo)(b:SK K ty fk)(c:SE K tv fv):SS K (aDI td ty tv) (kN fo fk fv):=by
 intro γ M o M' hh W H σ D G R k;obtain⟨⟨z,M1⟩,h1,hh⟩:=aH hh;obtain⟨⟨x,M2⟩,h2,hh⟩:=aH hh;obtain⟨⟨ky,M3⟩,h3,hh⟩:=aH hh;obtain⟨M4,h4,hh⟩:=aH hh;cases hh;refine c _ _ _ _ h1 W H σ _ G R fun u W1 H1 e1 G1 r1=>a _ _ _ _ h2 W1 H1 σ _ G1 (R.up e1) fun v W2 H2 e2 G2 r2=>b _ _ _ _ h3 W2 H2 σ _ G2 (R.up (e1.trans e2)) fun y W3 H3 e3 G3 r3=>?_;obtain⟨p,H4,ev,g,G4⟩:=IU G3 h4 (r2.up e3) r3 ((r1.up e2).up e3);exact⟨p,H4,ev,g,k W3 H4 ((e1.trans e2).trans e3) G4 σ (R.up ((e1.trans e2).trans e3))⟩
end
section
variable{ι:Type}
structure MK(K:Fg)(X:ι->Cx)(e:Expr)(f:KF):Prop where
 ex:∃t,(∀i,PE (X i) e t)/\SK K t f
variable{K:Fg}{X:ι->Cx}{e o i a b:Expr}{es:List Expr}{f g fx:EF}{fk:KF}{fa:AF}{pos:Pos}
theorem mk_one(x:ME K X e f):MK K X e (gA f):=by
 obtain⟨t,x1,x2⟩:=x.ex;exact⟨_,x1,aEd x2⟩
theorem VP:ME K X (.Dict [] [] pos) HN:=⟨_,fun _=>JF,XX⟩
theorem uF(hu:∀j,(X j).A.units+1<cLine)(x:ME K X o f)(y:MK K X i fk)(hs:aGG i:=by intro _ _;rfl):ME K X (.Subscript o i pos) (lC f fk):=by
 obtain⟨t,x1,x2⟩:=x.ex;obtain⟨u,y1,y2⟩:=y.ex;exact⟨_,fun j=>aCU (hu j) (x1 j) (y1 j) hs,aCx x2 y2⟩
theorem MY(hu:∀j,(X j).A.units+1<cLine)(y:MK K X i fk)(x:ME K X o f)(hm:behindInMarks .In o=false:=by rfl):MT K X (.Compare i [.In] [o] pos) (gB (pN false fk f)):=by
 obtain⟨t,x1,x2⟩:=x.ex;obtain⟨u,y1,y2⟩:=y.ex;exact⟨_,fun j=>WD (aEz (hu j) (y1 j) (x1 j)) hm,aBa (aEn y2 x2)⟩
theorem wA(hu:∀j,(X j).A.units+1<cLine)(y:MK K X i fk)(x:ME K X o f)(hm:behindInMarks .NotIn o=false:=by rfl):MT K X (.Compare i [.NotIn] [o] pos) (gB (pN true fk f)):=by
 obtain⟨t,x1,x2⟩:=x.ex;obtain⟨u,y1,y2⟩:=y.ex;exact⟨_,fun j=>WD (RG (hu j) (y1 j) (x1 j)) hm,aBa (UN y2 x2)⟩
theorem yV{pos':Pos}(hu:∀j,(X j).A.units+1<cLine)(x:ME K X o f)(y:MK K X i fk)(z:ME K X e g)(hs:∀j,swapsWith e (some (.Subscript o i pos')) pos.line (X j).env=pure false:=by intro _;rfl):MS K X (.Assign [.Subscript o i pos'] e pos) (kN f fk g):=by
 obtain⟨t,x1,x2⟩:=x.ex;obtain⟨u,y1,y2⟩:=y.ex;obtain⟨v,z1,z2⟩:=z.ex;exact⟨_,fun j=>aCW (hu j) (x1 j) (y1 j) (z1 j) (hs j),aCa x2 y2 z2⟩
end
end L2
namespace PySem
open Sem (wp)
open AutoSeq1 (wpAny_loadPart')
section
variable{prog:Program}{w:World}{A:Around}{E:Value->Shared->Prop}{s:Shared}
theorem CT{it l:Addr}{i:Nat}{items}{x:Value}{Q:Value->Shared->Prop}(hit:s.heap.IsTupleIter it l i)(hl:s.heap.IsTuple l items)(hx:items[i]?=some x)
 (hQ:∀h',h'.IsTupleIter it l (i+1)->Heap.SameBut it s.heap h'->Q x { s with heap:=h' }):wpAny (model prog w) A (Builtin.SmallTypes.nextOf (.ref it)) Q E s:=by
 obtain⟨o,ho,hc,hd⟩:=id hit;obtain⟨ol,hol,_,nl,hdl⟩:=hl;unfold Builtin.SmallTypes.nextOf;refine A1 (U2 (name:=Str.ofString "__next__") hit.typeIs Y7 (S5 Y7 hit.typeIs F.entry_tuple_iterator_next ?_ (F.args_tuple_iterator_next_1 _)));show wpAny _ _ (field (.ref it) 0 >>= _) _ _ s;refine A1 (J8 ho hd (x:=.ref l) rfl ?_);show wpAny _ _ (if (Value.ref l==Value.none)=true then _ else _) _ _ s;rw[A7 (show ¬((Value.ref l==Value.none)=true)from A8)];show wpAny _ _ (field (.ref it) 1 >>= _) _ _ s;refine A1 (J8 ho hd (x:=.int i 0) rfl ?_);show wpAny _ _ (seqItems? (.ref l) >>= _) _ _ s;refine A1 (wpAny_seqItems hol hdl ?_);simp only[Int.toNat_natCast,hx];refine A1 (A0l ho hd (by simp) (B5 ⟨x,rfl,B5 (hQ _ ?_ (Heap.SameBut.update ..))⟩));exact⟨_,A0d _ ho (Obj.isFreed_of_fields (U9 hd _)),(Obj.cls_mapFields ..).trans hc,by rw[U9 hd];simp[rawInt]⟩
theorem wR{it l:Addr}{i:Nat}{items}{Q:Value->Shared->Prop}(hh:A.handled=none)(hit:s.heap.IsTupleIter it l i)(hl:s.heap.IsTuple l items)(hx:items[i]?=none)
 (hE:∀h' e,Heap.ExtBut it s.heap h'->(∃o,h'.get? e=some o/\o.cls=.type "StopIteration")->E (.ref e) { s with heap:=h' }):wpAny (model prog w) A (Builtin.SmallTypes.nextOf (.ref it)) Q E s:=by
 obtain⟨o,ho,hc,hd⟩:=id hit;obtain⟨ol,hol,_,nl,hdl⟩:=hl;unfold Builtin.SmallTypes.nextOf;refine A1 (U2 (name:=Str.ofString "__next__") hit.typeIs Y7 (S5 Y7 hit.typeIs F.entry_tuple_iterator_next ?_ (F.args_tuple_iterator_next_1 _)));show wpAny _ _ (field (.ref it) 0 >>= _) _ _ s;refine A1 (J8 ho hd (x:=.ref l) rfl ?_);show wpAny _ _ (if (Value.ref l==Value.none)=true then _ else _) _ _ s;rw[A7 (show ¬((Value.ref l==Value.none)=true)from A8)];show wpAny _ _ (field (.ref it) 1 >>= _) _ _ s;refine A1 (J8 ho hd (x:=.int i 0) rfl ?_);show wpAny _ _ (seqItems? (.ref l) >>= _) _ _ s;refine A1 (wpAny_seqItems hol hdl ?_);simp only[Int.toNat_natCast,hx];refine A1 (wpAny_rule (A1 (A0l ho hd (by simp) ?_)));show wpAny _ _ (newExc (.type "StopIteration") [] >>= _) _ _ _;refine A1 ?_;simp only[newExc,newTuple];refine A1 (E2 ?_ (by size_fits));refine A1 (m:=firstArgMember _ _) (wpAny_of_eq (a:=Value.none) (by first|rfl|(simp only[firstArgMember];rfl)) ?_);refine E2 ?_ (by size_fits);simp only[raiseNew];refine A1 (wpAny_handled ?_)
 first|rw[show A.in1.handled=none from hh]|rw[hh]
 refine A1 (B5 (wpAny_throw ?_));exact hE _ _ (((Heap.SameBut.update ..).extBut.push _).push _) ⟨_,D1 _ rfl,rfl⟩
end
theorem SC{prog:Program}{w:World}{A:Around}(hh:A.handled=none)(it l:Addr)(hne:l≠it)(items:Array Value):
 Draws prog w A it [it,l] items.size (fun i v=>items[i]?=some v) (fun i h=>h.IsTupleIter it l i/\h.IsTuple l items) where
 live:=fun _ _ st=>let⟨o,ho,_⟩:=st.1;⟨o,ho⟩
 frame:=fun _ _ _ st hk=>⟨st.1.at fun o e=>hk it (by simp) o e,let⟨o,ho,r⟩:=st.2;⟨o,hk l (by simp) o ho,r⟩⟩
 item:=fun i s Q E hi st hQ=>by
  refine CT st.1 st.2 (x:=items[i]) (by simp[hi]) fun h' hit' hs'=>?_;exact hQ _ h' s.toks (by simp[hi]) ⟨hit',let⟨o,ho,r⟩:=st.2;⟨o,(hs'.2 l hne).trans ho,r⟩⟩ hs'
 done:=fun s Q E st hE=>wR hh st.1 st.2 (by simp) hE
theorem AZ(l:Addr)(items:Array Value)(n:Nat)(dct:Option Addr)(sl:Array (Option Value)):
 Meets (Builtin.«enumerate.__new__» ⟨[.type "enumerate",.ref l],[]⟩) (fun _ R s=>s.heap.get? l=some { cls:=.type "tuple",dict:=dct,data:=.seq items n,slots:=sl } /\
  R (.ok (.ret (.ref (s.heap.push { cls:=.type "tuple_iterator",data:=.fields #[.ref l,.int 0 0] }).objs.size)))
   { s with heap:=(s.heap.push { cls:=.type "tuple_iterator",data:=.fields #[.ref l,.int 0 0] }).push { cls:=.type "enumerate",data:=.fields #[.none,.bool false,.ref s.heap.objs.size,rawInt 0,.none,.none] } }):=
 .of_wp fun prog w A R s h=>by
  obtain⟨hp,g,d,tk,os⟩:=s;obtain⟨hl,h⟩:=h;have hsub:=sub_enumerate;have hL:Heap.IsTuple (Shared.heap ⟨hp,g,d,tk,os⟩) l items:=⟨_,hl,rfl,n,rfl⟩
  wp_walk using S8 hl
  refine wpAny_stack_any fun st=>B5 ?_;split
  .rename_i c _ _ _ _ _;cases (c==Value.type "enumerate")
   .wp_walk using S8 hl,A0k hL
    exact⟨_,rfl,h⟩
   .wp_walk using S8 hl,A0k hL
    exact⟨_,rfl,h⟩
  .wp_walk using S8 hl,A0k hL
   exact⟨_,rfl,h⟩
section
variable{prog:Program}{w:World}{A:Around}{E:Value->Shared->Prop}{s:Shared}
theorem CO{l:Addr}{items:Array Value}{Q:Value->Shared->Prop}(hL:s.heap.IsTuple l items)
 (h:∀h',IsEnum h' (s.heap.objs.size+1) s.heap.objs.size 0 .none->h'.IsTupleIter s.heap.objs.size l 0->h'.objs.size=s.heap.objs.size+2->
  (∀b o,s.heap.get? b=some o->h'.get? b=some o)->Q (.ref (s.heap.objs.size+1)) { s with heap:=h' }):
 wpAny (model prog w) A (call (.type "enumerate") [.ref l]) Q E s:=by
 obtain⟨⟨c,dct,dt,sl⟩,hl,hc,n,hd⟩:=hL
 replace hc:c=.type "tuple":=hc
 replace hd:dt=.seq items n:=hd
 subst hc hd
 refine callType_new F.called_enumerate (by decide) (F.typeCall_enumerate_1 _) (F.newCall_enumerate_1 _) (fun obj=>F.args_object_init_2 obj _) F.entry_enumerate_new
  (AZ l items n dct sl) ⟨hl,?_⟩
 have hz:(s.heap.push { cls:=.type "tuple_iterator",data:=.fields #[.ref l,.int 0 0] }).objs.size=s.heap.objs.size+1:=Heap.size_push ..;show _/\_;rw[hz]
 have he:IsEnum ((s.heap.push { cls:=.type "tuple_iterator",data:=.fields #[.ref l,.int 0 0] }).push
  { cls:=.type "enumerate",data:=.fields #[.none,.bool false,.ref s.heap.objs.size,rawInt 0,.none,.none] }) (s.heap.objs.size+1) s.heap.objs.size 0 .none:=by
  have:=D1 (s.heap.push { cls:=.type "tuple_iterator",data:=.fields #[.ref l,.int 0 0] })
   (o:={ cls:=.type "enumerate",data:=.fields #[.none,.bool false,.ref s.heap.objs.size,rawInt 0,.none,.none] }) rfl
  rw[hz]at this;exact this
 refine⟨⟨_,he,rfl⟩,h _ he ⟨_,A4 _ (D1 _ rfl),rfl,rfl⟩ (by rw[Heap.size_push,hz]) fun b o x=>A4 _ (A4 _ x)⟩
end
end PySem
namespace L2
open PySem PySem.Spec PyProof.Rows
section
variable{X:Cx}{pins:List (Addr×Obj)}{σ:St}{H:Hp}{s:Shared}{h':Heap}
theorem Inv.turnLay{fp:List Addr}{a:Addr}{o:HO}{t':Nat}(I:Inv X pins σ H s)(hf:∀b∈fp,pY X pins H b)(k:∀b u,b∉fp->s.heap.get? b=some u->h'.get? b=some u)(hp:s.heap.objs.size<=a)(new:eL X.prog X.w (upd H a o) h' a o):
 Inv X pins σ (upd H a o) { s with heap:=h',toks:=t' }:=by
 have hn:H a=none:=I.hok.fresh hp;have nf:∀b u,H b=some u->b∉fp:=fun b u e z=>by rw[(hf b z).1]at e;cases e
 refine I.step (g':=s.gens) (d':=s.drawn) (ch:=fp) (fun b hb=>?_) (fun b o _ _ hc e _=>k b o hc e) (fun b o _ _ hc e _=>⟨o.slots,k b o hc e⟩) (fun b o _ e n=>?_) (fun b o hc e=>⟨o,k b o hc e⟩)
  (fun b xs e=>?_) (fun b o u e=>?_) (fun b ps e=>⟨#[],?_⟩) (fun m hm=>?_) ?_ I.bare
 .obtain⟨_,f1,_,f3,f4,f5⟩:=hf b hb;exact⟨f3,f1,f4,f5⟩
 .rw[aV (fun z=>by subst z;exact absurd (B9 e) (Nat.not_lt.mpr hp))];exact n
 .rw[aV (aU e hn)];exact e
 .rw[aV (aU e hn)];exact e
 .rw[aV (aU e hn)];simpa using e
 .obtain⟨o,es,ep,ho,r⟩:=hm;exact⟨o,es,ep,k _ o (fun z=>(hf _ z).2.1 rfl) ho,r⟩
 .intro b u e;by_cases hb:b=a
  .subst hb;rw[aY]at e;cases e;exact new
  .rw[aV hb]at e;refine(I.hok b u e).stay (fun c v hc q=>k c v ?_ q) (fun c q=>by rw[aV (aU q hn)];exact q) fun c xs q=>by rw[aV (aU q hn)];exact q
   rcases hc with z|z
   .rw[z];exact nf b _ e
   .exact nf c _ z
theorem Inv.turnF{fp:List Addr}{t':Nat}(I:Inv X pins σ H s)(hf:∀b∈fp,pY X pins H b)(k:∀b u,b∉fp->s.heap.get? b=some u->h'.get? b=some u):Inv X pins σ H { s with heap:=h',toks:=t' }:=by
 have nf:∀b u,H b=some u->b∉fp:=fun b u e z=>by rw[(hf b z).1]at e;cases e
 refine I.step (g':=s.gens) (d':=s.drawn) (ch:=fp) (fun b hb=>?_) (fun b o _ _ hc e _=>k b o hc e) (fun b o _ _ hc e _=>⟨o.slots,k b o hc e⟩) (fun _ _ _ _ n=>n) (fun b o hc e=>⟨o,k b o hc e⟩)
  (fun _ _ e=>e) (fun _ _ _ e=>e) (fun b ps e=>⟨#[],by simpa using e⟩) (fun m hm=>?_) (fun b u e=>?_) I.bare
 .obtain⟨_,f1,_,f3,f4,f5⟩:=hf b hb;exact⟨f3,f1,f4,f5⟩
 .obtain⟨o,es,ep,ho,r⟩:=hm;exact⟨o,es,ep,k _ o (fun z=>(hf _ z).2.1 rfl) ho,r⟩
 .refine(I.hok b u e).stay (fun c v hc q=>k c v ?_ q) (fun _ q=>q) fun _ _ q=>q;rcases hc with z|z
  .rw[z];exact nf b _ e
  .exact nf c _ z
end
noncomputable def Ite(Sq:Hp->List V->Prop):It:=
 ⟨fun i H=>∃xs x,Sq H xs/\xs[i]?=some x,fun i H v H'=>∃p x,H p=none/\v=.ref p/\H'=upd H p (.tup [.int i,x])/\∀xs,Sq H xs->xs[i]?=some x,fun i H=>∃xs,Sq H xs/\xs.length=i⟩
noncomputable def tnE(e it:Addr)(It:Heap->Nat->Prop)(i:Nat)(h:Heap):Prop:=(∃old,IsEnum h e it i old)/\It h i
section
variable{P:Program}{w:World}{K:Fg}{elts:List Expr}{x1:Nat}{tpos:Pos}
theorem EO{e it a:Addr}{Sq:Hp->List V->Prop}{It:Heap->Nat->Prop}(hei:e≠it)
 (hobj:∀h i,It h i->∃o vs,h.get? it=some o/\o.data=.fields vs) (hkeep:∀h h' i,It h i->(∀o,h.get? it=some o->h'.get? it=some o)->It h' i)
 (hinj:∀(X:Cx),X.K=K->∀pins σ H s,Inv X pins σ H s->∀xs ys,Sq H xs->Sq H ys->xs=ys)
 (draw:∀(X:Cx),X.prog=P->X.w=w->X.K=K->X.calm=true->∀pins σ H s,Inv X pins σ H s->∀xs,Sq H xs->(∃o vs,s.heap.get? it=some o/\o.data=.fields vs)->(∃o vs,s.heap.get? e=some o/\o.data=.fields vs)->∃(its:List Value)(fp:List Addr)(S:Nat->Heap->Prop),bE xs its/\e∉fp /\
  Draws P w X.A.in1 it fp its.length (fun i v=>its[i]?=some v) S/\(∀i,It s.heap i->S i s.heap)/\∀i h,S i h->It h i):
 Turn P w K (.Tuple elts x1 tpos) (Ite Sq) [e,it] e (tnE e it It) where
 mem:=by simp
 obj:=fun i h st b hb=>by
  obtain⟨⟨old,h1⟩,h2⟩:=st;rcases List.mem_cons.mp hb with rfl|hb
  .exact⟨_,h1,fun v z=>by cases z⟩
  .obtain⟨o,vs,q1,q2⟩:=hobj _ _ h2;rw[List.mem_singleton.mp hb];exact⟨o,q1,fun v z=>by rw[q2]at z;cases z⟩
 keep:=fun i h h' st k=>by
  obtain⟨⟨old,h1⟩,h2⟩:=st;exact⟨⟨old,k e (by simp) _ h1⟩,hkeep _ _ _ h2 fun o q=>k it (by simp) o q⟩
 item:=by
  intro X hP hw hK hc i pins s σ H E I hf st hg;obtain⟨xs,x,hq,hx⟩:=hg;obtain⟨⟨old,he⟩,hit⟩:=st;obtain⟨its,fp,S,rv,hef,D,s1,s2⟩:=draw X hP hw hK hc pins σ H s I xs hq (hobj _ _ hit) ⟨_,_,he,rfl⟩;subst hP hw hK;obtain⟨u,hu,ru⟩:=rv.get hx;have hlt:i<its.length:=(List.getElem?_eq_some_iff.mp hu).1;refine wpAny_pyNext_enum_itemD D he (s1 _ hit) hlt hei hef fun v h1 tk hv ho st1 ht hsz hk=>⟨_,rfl,?_⟩;rw[hu]at hv;cases hv;refine wpAny_letOwnedTupleGo_enum ho fun h2 he2 sb=>?_;have ne:s.heap.objs.size≠e:=Nat.ne_of_gt (B9 he);have ht2:h2.get? s.heap.objs.size=some { cls:=.type "tuple",data:=.seq #[.int i tk,u] }:=(sb.2 _ ne).trans ht
  have I2:Inv X pins σ (upd H s.heap.objs.size (.tup [.int i,x])) { s with heap:=h2,toks:=tk+1 }:=by
   refine I.turnLay hf (fun b o hb q=>(sb.2 b fun z=>hb (by simp[z])).trans (hk b o (fun z=>hb (by simp[z])) (fun z=>hb (by simp[z])) q)) (A6 _) ⟨by show 2<=sizeLine;rw[E4];decide,[.int i tk,u],.cons ⟨tk,rfl⟩ (.cons ru .nil),⟨_,ht2,rfl,_,rfl⟩⟩
  refine⟨.ref s.heap.objs.size,_,I2,rfl,⟨_,x,I.hok.fresh (A6 _),rfl,rfl,fun ys hy=>by rw[hinj X rfl _ _ _ _ I ys xs hy hq];exact hx⟩,⟨⟨_,by have:=he2;push_cast;exact this⟩,?_⟩,fun b hb=>?_⟩
  .exact hkeep _ _ _ (s2 _ _ st1) fun o q=>(sb.2 it (O3 hei)).trans q
  .have hb0:=(hf b hb).1;rw[aV (fun z=>?_)]
   .exact hb0
   .subst z;rcases List.mem_cons.mp hb with q|q
    .exact ne q
    .obtain⟨o,vs,q1,_⟩:=hobj _ _ hit;rw[<- List.mem_singleton.mp q]at q1;exact absurd (B9 q1) (F8 _)
 done:=by
  intro X hP hw hK hc i pins s σ H E I hf st hg;obtain⟨xs,hq,hx⟩:=hg;obtain⟨⟨old,he⟩,hit⟩:=st;obtain⟨its,fp,S,rv,hef,D,s1,s2⟩:=draw X hP hw hK hc pins σ H s I xs hq (hobj _ _ hit) ⟨_,_,he,rfl⟩;subst hP hw hK;have hl:=rv.length;rw[hl]at hx;subst hx;exact wpAny_pyNext_enum_endD D he (s1 _ hit) fun h1 hx=>⟨rfl,I.turnF (t':=s.toks) hf fun b o hb q=>hx b o (fun z=>hb (by simp[z])) q⟩
 self:=fun A i s Q E st h=>by
  obtain⟨⟨old,he⟩,_⟩:=st;exact wpAny_pyIter_enum he h
theorem LU{e it a:Addr}(hei:e≠it):Turn P w K (.Tuple elts x1 tpos) (Ite fun H xs=>SqL K H a xs) [e,it] e (tnE e it fun h i=>h.IsListIter it a i):=by
 refine EO (a:=a) hei (fun h i st=>?_) (fun h h' i st k=>st.at k) (fun X hK pins σ H s I xs ys h1 h2=>?_) fun X hP hw hK hc pins σ H s I xs hq hi he=>?_
 .obtain⟨o,q,_,d⟩:=st;exact⟨o,_,q,d⟩
 .subst hK;exact I.list_inj h1 h2
 .subst hP hw hK;obtain⟨its,rv,p,hz⟩:=I.list hq
  have ne:∀b,(∃o vs,s.heap.get? b=some o/\o.data=.fields vs)->a≠b:=fun b ⟨o,vs,q,d⟩ z=>by
   subst z;obtain⟨o',q',_,n,d'⟩:=p.isList;rw[q]at q';cases q';rw[d]at d';cases d'
  refine⟨its,[it,a],fun i h=>h.IsListIter it a i/\h.IsList a its.toArray,rv,?_,?_,fun i st=>⟨st,p.isList⟩,fun i h st=>st.1⟩
  .intro z;rcases List.mem_cons.mp z with z|z
   .exact hei z
   .exact ne e he (List.mem_singleton.mp z).symm
  .have:=Draws.list (prog:=X.prog) (w:=X.w) (A:=X.A.in1) (I.ok.hd hc) it a (ne it hi) its.toArray;simpa using this
theorem NO{e it a:Addr}(hei:e≠it):Turn P w K (.Tuple elts x1 tpos) (Ite fun H xs=>SqT K H a xs) [e,it] e (tnE e it fun h i=>h.IsTupleIter it a i):=by
 refine EO (a:=a) hei (fun h i st=>?_) (fun h h' i st k=>st.at k) (fun X hK pins σ H s I xs ys h1 h2=>?_) fun X hP hw hK hc pins σ H s I xs hq hi he=>?_
 .obtain⟨o,q,_,d⟩:=st;exact⟨o,_,q,d⟩
 .subst hK;exact I.tuple_inj h1 h2
 .subst hP hw hK;obtain⟨its,rv,p,hz⟩:=I.tuple hq;have pt:s.heap.IsTuple a its.toArray:=p
  have ne:∀b,(∃o vs,s.heap.get? b=some o/\o.data=.fields vs)->a≠b:=fun b ⟨o,vs,q,d⟩ z=>by
   subst z;obtain⟨o',q',_,n,d'⟩:=pt;rw[q]at q';cases q';rw[d]at d';cases d'
  refine⟨its,[it,a],fun i h=>h.IsTupleIter it a i/\h.IsTuple a its.toArray,rv,?_,?_,fun i st=>⟨st,pt⟩,fun i h st=>st.1⟩
  .intro z;rcases List.mem_cons.mp z with z|z
   .exact hei z
   .exact ne e he (List.mem_singleton.mp z).symm
  .have:=SC (prog:=X.prog) (w:=X.w) (A:=X.A.in1) (I.ok.hd hc) it a (ne it hi) its.toArray;simpa using this
end
section
variable{X:Cx}{elts:List Expr}{x1:Nat}{tpos:Pos}
noncomputable def aDG(K:Fg)(ta:TA):TI:=fun σ H R=>ta σ H fun vs H1=>∃a,vs=[.ref a]/\((∃xs,SqL K H1 a xs/\R (Ite fun H xs=>SqL K H a xs) H1)\/(∃xs,SqT K H1 a xs/\R (Ite fun H xs=>SqT K H a xs) H1))
theorem aCG{a:Expr}{ta:TA}{p pos:Pos}(hg:Gl X "enumerate")(hm:X.mg "enumerate"=none)(ha:PA X [a] ta)(hs:starEach [a] X.env=[(false,eval a X.env)]:=by rfl):PI X (.Tuple elts x1 tpos) (.Call (.Name "enumerate" p) [a] [] pos) (aDG X.K ta):=by
 intro pins s σ H R I h;refine Call_ (mV I hg hm boot_enumerate (F9 (thn (ha pos pins s σ H _ I h) fun us s1 ⟨vs,H1,I1,r1,q1⟩=>?_) hs rfl));obtain⟨l,e,q⟩:=q1;subst e;cases r1 with
 |cons r rr=>
  cases rr;cases (show _=Value.ref l from r)
  have fp:∀b∈[s1.heap.objs.size+1,s1.heap.objs.size],pY X pins H1 b:=fun b hb=>by
   rcases List.mem_cons.mp hb with rfl|hb
   .exact I1.fpOk (A0a _) (I1.hok.fresh (A0a _))
   .rw[List.mem_singleton.mp hb];exact I1.fpOk (A6 _) (I1.hok.fresh (A6 _))
  rcases q with⟨xs,hq,q⟩|⟨xs,hq,q⟩
  .obtain⟨its,rv,p,hz⟩:=I1.list hq;refine call_enumerate_list p.isList fun h' he hit hsz hk=>?_;refine wpAny_pyIter_enum he ?_;exact⟨_,_,_,_,H1,rfl,I1.kept (t':=s1.toks) hk,LU (a:=l) (Nat.succ_ne_self _),⟨⟨_,he⟩,hit⟩,fp,q⟩
  .obtain⟨its,rv,p,hz⟩:=I1.tuple hq;refine CO (show s1.heap.IsTuple l its.toArray from p) fun h' he hit hsz hk=>?_;refine wpAny_pyIter_enum he ?_;exact⟨_,_,_,_,H1,rfl,I1.kept (t':=s1.toks) hk,NO (a:=l) (Nat.succ_ne_self _),⟨⟨_,he⟩,hit⟩,fp,q⟩
end
noncomputable def ES(ds:List PyData):List CD:=ds.zipIdx.map fun p=>.d (.tuple [.int (p.2:Nat),p.1])
noncomputable def KN(f:AF):AF:=fun γ M=>(f γ M).bind fun r=>match r.1 with
 |[.d x]=>(aQ x).bind fun ds=>some (ES ds,r.2)
 |_=>none
theorem RA{ds:List PyData}{i:Nat}{x:CD}(h:(ES ds)[i]?=some x):∃d,ds[i]?=some d/\x=.d (.tuple [.int (i:Nat),d]):=by
 unfold ES at h;rw[C8,List.getElem?_zipIdx]at h;cases e:ds[i]? with
 |none=>rw[e]at h;cases h
 |some d=>
  rw[e]at h;exact⟨d,rfl,by simpa using h.symm⟩
theorem aBl{K:Fg}{tA:TA}{fa:AF}(b:SA K tA fa):SI K (aDG K tA) (KN fa):=by
 intro γ M xs M' hh W H σ R G Rs k;obtain⟨⟨ys,M1⟩,h1,hh⟩:=aH hh;refine b _ _ _ _ h1 W H σ _ G Rs fun vs W1 H1 e1 G1 r1=>?_;revert hh;dsimp only;split
 .rename_i y;intro hh;obtain⟨ds,h2,hh⟩:=aH hh;cases hh;cases r1 with
  |cons r r'=>
   cases r';obtain⟨p,us,rfl,hs,hr⟩:=mF (show Rep K W1.F y _ from r) h2
   have gv:∀Sq:Hp->List V->Prop,(∀W2 M2 H2,W1.Ext W2->Good K W2 M2 H2->Sq H2 us)->MZ K (Ite Sq) (ES ds) W1:=fun Sq hS W2 M2 H2 e2 G2=>by
    have hq:=hS W2 M2 H2 e2 G2;refine⟨fun i x hx=>?_,us,hq,by rw[show(ES ds).length=ds.length by simp[ES],hr.length]⟩;obtain⟨d,hd,rfl⟩:=RA hx;obtain⟨u,hu,ru⟩:=Paired.get (gU hr) (show(ds.map CD.d)[i]?=some (.d d)by rw[C8,hd];rfl);refine⟨⟨us,u,hq,hu⟩,fun v H3 hy=>?_⟩;obtain⟨p',x',hn,rfl,rfl,hx'⟩:=hy;have:=hx' us hq;rw[hu]at this;cases this;obtain⟨e3,G3⟩:=G2.lay (o:=.tup [.int i,u]) hn;refine⟨_,e3,G3,⟨p',_,rfl,SqT.of aY,?_⟩⟩;exact⟨_,_,rfl,rfl,_,_,rfl,Rep.same e3.ff _ _ (show Rep K W2.F d u from(ru.up e2)),rfl⟩
   refine⟨p,rfl,?_⟩;rcases hs with hs|hs
   .exact .inl ⟨us,G1.fh.seq hs,k _ W1 H1 e1 G1 (gv _ fun W2 M2 H2 e2 G2=>G2.fh.seq (e2.ff.seq hs))⟩
   .exact .inr ⟨us,G1.fh.seqT hs,k _ W1 H1 e1 G1 (gv _ fun W2 M2 H2 e2 G2=>G2.fh.seqT (e2.ff.seqT hs))⟩
 .intro hh;cases hh
theorem aCk{ι:Type}{K:Fg}{X:ι->Cx}{a:Expr}{fa:AF}{pos:Pos}{elts:List Expr}{x1:Nat}{tpos p:Pos}(hK:∀i,(X i).K=K)(hm:∀i,(X i).mg "enumerate"=none)(x:MA K X [a] fa)(hg:∀i,Gl (X i) "enumerate":=by intro _;rfl):MI K X (.Tuple elts x1 tpos) (.Call (.Name "enumerate" p) [a] [] pos) (KN fa):=by
 obtain⟨t,x1',x2⟩:=x.ex;exact⟨_,fun i=>by have:=aCG (elts:=elts) (x1:=x1) (tpos:=tpos) (p:=p) (pos:=pos) (hg i) (hm i) (x1' i) (x.st.1 _);rw[hK i]at this;exact this,aBl x2⟩
end L2
namespace PySem
open PySem.Calls PyProof.Rows
end PySem
namespace PySem.W
open PySem PySem.Calls PyProof.Rows PyProof.V PySem.Spec
section
variable{prog:Program}{w:World}{A:Around}{E:Value->Shared->Prop}{s:Shared}{h₀:Heap}{L:Addr}{m:Str->Option Value}{news:List (Addr×Obj)}{vs:List Value}
theorem l2_tail{Q:Value->Shared->Prop}(F:Fr h₀ L s.heap m)(N:News h₀ L s.heap news)(h2:2<=vs.length)(h64:vs.length<64)
 (h:∀D e1 h',Fr h₀ L h' m->News h₀ L h' ((D,seqObj "list" #[] e1)::news)->(∀q∈news,q.1<D)->
  wpAny (model prog w) A.in1 (keyKind' vs.toArray) (fun κ s'=>(kas_sort vs.length).kasWp (kas_ask prog w A.in1 κ vs) (fun p s''=>KasFin h₀ L m D e1 (p.toList.map fun i=>vs.getD i Value.none) (fun s3=>Q (.ref D) s3) s'') s') (fun _ _=>False) { s with heap:=h' }):
 wpAny (model prog w) A (do let l <- newList vs;let _ <- holding [l] (call (.builtin "list.sort") [l]);ret l) (fun fin s'=>∃v,fin=.done (.ret v)/\Q v s') E s:=by
 refine A1 (wpAny_newList ?_ (by rw[E4];omega));have hoL:(s.heap.push (seqObj "list" vs.toArray 0)).get? s.heap.objs.size=some (seqObj "list" vs.toArray 0):=D1 _ rfl;have keep:∀b o,s.heap.get? b=some o->(s.heap.push (seqObj "list" vs.toArray 0)).get? b=some o:=fun b o q=>A4 _ q;have hL:L<s.heap.objs.size:=F.ns.lt;show wpAny _ _ _ _ _ { s with heap:=s.heap.push (seqObj "list" vs.toArray 0) };refine A1 (J1 (S5 slot_list_sort ⟨_,hoL,rfl⟩ entry_list_sort ?body (args_list_sort _)))
 case body=>
  refine kat_list_sort (s:={ s with heap:=s.heap.push (seqObj "list" vs.toArray 0) }) (F.kept keep) (N.grown keep) hoL (Nat.ne_of_gt hL) (Heap.get?_none_of_le (F0 F.above (Z3 hL)))
   (fun p hp=>C7 (B9 (N p hp).1)) h2 h64 fun e1 h' F' N'=>?_
  refine E1 (h _ e1 h' F' N' fun q hq=>B9 (N q hq).1) (fun κ s' hk=>?_) fun _ _ x=>x;rw[kat_ask_eq rfl]at hk ⊢;exact kas_wp_mono hk fun p s'' hk'=>hk'.mono fun s3 hq=>⟨_,rfl,B5 ⟨_,rfl,hq⟩⟩
end
end PySem.W
namespace L2
variable{A:Around}{H:Hp}{W:Wd}
open PySem PySem.Spec PyProof.Rows
section
variable{X:Cx}{pins:List (Addr×Obj)}{σ:St}{H:Hp}{s:Shared}{E:Value->Shared->Prop}
noncomputable def qH(its:List Value):Sem PySem.Fin:=do let l <- newList its;let _ <- holding [l] (call (.builtin "list.sort") [l]);ret l
noncomputable def WA(K:Fg)(vs:List V)(H:Hp)(Q:VK):Prop:=
 (∃rows:List (List PyData),aL K H (rows.map .tuple) vs/\2<=rows.length/\rows.length<64/\(∀r∈rows,r.all SeqAt.shaped=true/\dF r=true)/\(jL rows=true\/qI rows=true)/\(∀i j,i<rows.length->j<rows.length->(cY (rows.getD i []) (rows.getD j [])).isSome=true) /\
  ∀l,H l=none->Q (.ref l) (upd H l (.lst ((eG (fM rows) rows.length).map fun i=>vs.getD i .non))))\/(vs.length<2/\∀l,H l=none->Q (.ref l) (upd H l (.lst vs)))
theorem aFW{rows:List (List PyData)}{vs:List V}{its:List Value}{Q:VK}(hu:A.in1.units+64<cLine)(I:Inv X pins σ H s)(rv:bE vs its)(hrep:aL X.K H (rows.map .tuple) vs)(h2:2<=rows.length)(h64:rows.length<64)
 (hsh:∀r∈rows,r.all SeqAt.shaped=true/\dF r=true) (hknd:jL rows=true\/qI rows=true) (hlt:∀i j,i<rows.length->j<rows.length->(cY (rows.getD i []) (rows.getD j [])).isSome=true)
 (q:∀l,H l=none->Q (.ref l) (upd H l (.lst ((eG (fM rows) rows.length).map fun i=>vs.getD i .non)))):
 wpAny (model X.prog X.w) A (qH its) (fun fin s'=>∃v,fin=.done (.ret v)/\∃x H',Inv X pins σ H' s'/\RelV x v/\Q x H') E s:=by
 obtain⟨as,hr⟩:=aL.reads I _ vs its hrep rv;have hlen:its.length=rows.length:=by rw[ReadsAll.len hr,A2]
 obtain⟨m,F⟩:=I.fr;have N:News X.base X.env.locals s.heap (iV X.base s.heap X.env.locals):=yW;unfold qH;refine PySem.W.l2_tail (Q:=fun v s'=>∃x H',Inv X pins σ H' s'/\RelV x v/\Q x H') F N (by omega) (by omega) fun D e1 h' F' N' hD=>?_
 have kp:∀(h1:Heap),Fr X.base X.env.locals h1 m->(∀q∈iV X.base s.heap X.env.locals,h1.get? q.1=some q.2)->∀b o,b≠X.env.locals->s.heap.get? b=some o->h1.get? b=some o:=fun h1 G1 M1 b o hb e=>by
  cases z:X.base.get? b with
  |some v=>
   have:=I.bk b v z;rw[e]at this;cases this;exact G1.keep b _ z
  |none=>exact M1 (b,o) (hG hb z e)
 have k':=kp h' F' (fun q hq=>(N' q (A9 _ hq)).1)
 have hsz:s.heap.get? D=none:=by
  have hN:=N' _ B0;cases e:s.heap.get? D with
  |none=>rfl
  |some o=>exact absurd (hD (D,o) (hG hN.2.1 hN.2.2 e)) (F8 _)
 have seqL:∀b o vs n,s.heap.get? b=some o->o.data=.seq vs n->b≠X.env.locals:=fun b o vs n e d z=>by
  obtain⟨o',es,ep,x1,x2,_⟩:=F.ns;subst z;rw[e]at x1;cases x1;rw[d]at x2;cases x2
 have onl:dF (rows.map .tuple)=true:=by
  clear hrep hr hlen q hknd hlt h2 h64
  induction rows with
  |nil=>rfl
  |cons x r ih=>
   show(dF x&&dF (r.map .tuple))=true;rw[(hsh x B0).2,ih fun y hy=>hsh y (A9 _ hy)];rfl
 have hr':ReadsAll h' its (rows.map .tuple) as:=OX (fun b o vs n e d=>k' b o (seqL b o vs n e d) e) _ _ _ onl hr;refine EJ (s:={ s with heap:=h' }) hr' (by omega) hknd ?_;rw[hlen];refine KS.wp (lt:=fM rows) (n:=rows.length) (fun i j C hi hj c=>?_) (fun p hp'=>?_) ((FT (by omega)).ks (lt:=fM rows))
 .have at_:∀i,i<rows.length->∃bs,Reads h' (its.getD i .none) (.tuple (rows.getD i [])) bs:=fun i hi=>by
   obtain⟨bs,x⟩:=ReadsAll.at i hr' (by simpa using hi)
   have:(rows.map PyData.tuple).getD i .none=.tuple (rows.getD i []):=by
    rw[B6,C8,B6,B8 hi];rfl
   rw[this]at x;exact⟨bs,x⟩
  obtain⟨b1,r1⟩:=at_ i hi;obtain⟨b2,r2⟩:=at_ j hj
  have mem:∀i,i<rows.length->rows.getD i []∈rows:=fun i hi=>by
   rw[B6,B8 hi];exact S1 hi
  have hd:jL rows=true->∀r∈rows,r.head?.all isI=true:=fun z r hr=>by
   unfold jL at z;have:=List.all_eq_true.mp z r hr;cases r with
   |nil=>rfl
   |cons d ds=>cases d<;>first|rfl|exact absurd this (by intro z;cases z)
  obtain⟨c0,hc0⟩:=Option.isSome_iff_exists.mp (hlt i j hi hj);have hc:fM rows i j=c0:=by unfold fM;rw[hc0];rfl
  rw[hc]at c;exact XZ (s:={ s with heap:=h' }) hu r1 r2 (hsh _ (mem i hi)).1 (hsh _ (mem j hj)).1 hc0 (fun z=>⟨hd z _ (mem i hi),hd z _ (mem j hj)⟩) c
 .obtain⟨e,_⟩:=hp';subst e;refine PySem.W.KasFin.intro F' N' (.head fun q hq=>C7 (hD q hq)) fun h'' c F'' N''=>?_;have k'':=kp h'' F'' (fun q hq=>(N'' q (A9 _ hq)).1);refine⟨.ref D,upd H D (.lst ((eG (fM rows) rows.length).map fun i=>vs.getD i .non)),?_,rfl,q D (I.hok.none hsz)⟩;refine I.laidL k'' (fun m' hm'=>?_) hsz ⟨?_,_,c,wU rv _,(N'' _ B0).1⟩
  .rw[<- FV F.ns hm'];exact F''.ns
  .rw[A2,(lX (fM rows) (by omega)).length_eq,U8];have:64<=sizeLine:=by decide
   omega
theorem aFM{A:Around}{vs:List V}{its:List Value}{Q:VK}(I:Inv X pins σ H s)(rv:bE vs its)(h2:vs.length<2)(q:∀l,H l=none->Q (.ref l) (upd H l (.lst vs))):
 wpAny (model X.prog X.w) A (qH its) (fun fin s'=>∃v,fin=.done (.ret v)/\∃x H',Inv X pins σ H' s'/\RelV x v/\Q x H') E s:=by
 have hl:=rv.length;have hz:its.length<=sizeLine:=by rw[E4];omega
 unfold qH;refine A1 (wpAny_newList ?_ hz);refine A1 (J1 ?_);have gD:(s.heap.push { cls:=.type "list",data:=.seq its.toArray }).get? s.heap.objs.size=some (seqObj "list" its.toArray 0):=D1 _ rfl;refine S5 slot_list_sort ⟨_,gD,rfl⟩ entry_list_sort (pL gD (by omega) ⟨_,rfl,?_⟩) (args_list_sort _)
 obtain⟨c,gg⟩:∃c,(sortedHeap (s.heap.push { cls:=.type "list",data:=.seq its.toArray }) s.heap.objs.size its its.toArray).get? s.heap.objs.size=some (seqObj "list" its.toArray c):=by
  unfold sortedHeap;have g1:=A0b gD (fun _=>#[]);have g2:=A4 (seqObj "tuple" its.toArray 0) g1;have g3:=A4 (seqObj "list" #[] 0) g2;exact⟨_,A0b g3 (fun _=>its.toArray)⟩
 refine B5 ⟨_,rfl,.ref s.heap.objs.size,upd H s.heap.objs.size (.lst vs),I.laid (t':=s.toks) (fun b o e=>?_) (A6 _) ⟨by omega,its,c,rv,gg⟩,rfl,q _ (I.hok.fresh (A6 _))⟩
 .have hb:b≠s.heap.objs.size:=C7 (B9 e);unfold sortedHeap;rw[Z2 _ _ _ _ hb];refine A4 _ (A4 _ ?_);rw[Z2 _ _ _ _ hb];exact A4 _ e
theorem aFf{vs:List V}{its:List Value}{Q:VK}(hu:A.in1.units+64<cLine)(I:Inv X pins σ H s)(rv:bE vs its)(h:WA X.K vs H Q):
 wpAny (model X.prog X.w) A (qH its) (fun fin s'=>∃v,fin=.done (.ret v)/\∃x H',Inv X pins σ H' s'/\RelV x v/\Q x H') E s:=by
 rcases h with⟨rows,a,b,c,d,e,f,g⟩|⟨a,b⟩
 .exact aFW hu I rv a b c d e f g
 .exact aFM I rv a b
end
section
variable{K:Fg}{td:TE}{fo:EF}
noncomputable def HY(kv:List Key×PyData):List PyData:=[.tuple (kv.1.map aIS),kv.2]
noncomputable def pU(rows:List (List PyData)):Option (List PyData):=if sortable rows=true then some (DV rows)else if rows.length<2 then some (rows.map .tuple)else none
end
section
variable{K:Fg}
theorem Good.freezeL{M:Sto}{i:Nat}{xs:List CD}{ds:List PyData}(G:Good K W M H)(hi:M[i]?=some (.lst xs))(hd:mW xs=some ds):
 ∃W',W.Ext W'/\Good K W' (M.set i .dead) H/\W'.α i=W.α i/\cH K W' (.d (.list ds)) (.ref (W.α i)):=by
 obtain⟨vs,hv,rv⟩:=G.lstAt hi;obtain⟨hn,_⟩:=G.cs i _ hi (by intro q;cases q);have lt:i<M.length:=(List.getElem?_eq_some_iff.mp hi).1;have e:W.Ext { W with F:=upd W.F (W.α i) (.lst vs) }:=⟨jQ.upd hn,A6 _,fun _ _=>rfl⟩
 have at_:∀j d,(M.set i .dead)[j]?=some d->d≠.dead->j≠i/\M[j]?=some d:=fun j d h hd=>by
  by_cases q:i=j
  .subst q;rw[L8 lt]at h;exact absurd (D5 h).symm hd
  .rw[O7 q]at h;exact⟨fun z=>q z.symm,h⟩
 refine⟨_,e,⟨fun c o hc=>?_,by show W.n=_;rw[G.n,U3],fun j d hj hd=>?_,fun j k d1 d2 hj hk e1 e2 he=>?_⟩,rfl,⟨_,vs,rfl,SqL.of aY,aL.same e.ff _ _ (fQ hd rv)⟩⟩
 .have hc:upd W.F (W.α i) (.lst vs) c=some o:=hc;by_cases q:c=W.α i
  .subst q;rw[aY]at hc;cases hc;exact hv
  .rw[aV q]at hc;exact G.fh c o hc
 .obtain⟨q,h⟩:=at_ j d hj hd;obtain⟨k1,u,k2,k3⟩:=G.cs j d h hd;have ne:W.α j≠W.α i:=fun z=>q (G.inj j i d _ h hi hd (by intro z;cases z) z);exact⟨by show upd W.F (W.α i) (.lst vs) (W.α j)=none;rw[aV ne];exact k1,u,k2,k3.up e⟩
 .exact G.inj j k d1 d2 (at_ j d1 hj e1).2 (at_ k d2 hk e2).2 e1 e2 he
noncomputable def bX(f:EF):EF:=fun γ M=>(f γ M).bind fun r=>match r.1 with
 |.c i=>match r.2[i]? with
  |some (.lst xs)=>(mW xs).bind fun ds=>some (.d (.list ds),r.2.set i .dead)
  |_=>none
 |.d x=>some (.d x,r.2)
 |_=>none
theorem TJ{t:TE}{f:EF}(a:SE K t f):SE K t (bX f):=by
 intro γ M x M' hh W H σ Q G R k;obtain⟨⟨o,M1⟩,h1,hh⟩:=aH hh;revert hh;dsimp only;split
 .rename_i i;split
  .rename_i xs hx;intro hh;obtain⟨ds,h2,hh⟩:=aH hh;cases hh;refine a _ _ _ _ h1 W H σ _ G R fun v W1 H1 e1 G1 r1=>?_;obtain⟨W2,e2,G2,_,r2⟩:=G1.freezeL hx h2;rw[r1.2];exact k _ W2 H1 (e1.trans e2) G2 r2
  .intro hh;cases hh
 .intro hh;cases hh;exact a _ _ _ _ h1 W H σ _ G R k
 .intro hh;cases hh
theorem hJ{ι:Type}{X:ι->Cx}{e:Expr}{f:EF}(x:ME K X e f):ME K X e (bX f):=by
 obtain⟨t,x1,x2⟩:=x.ex;exact⟨t,x1,TJ x2⟩
noncomputable def CW:FN:=fun xs M=>match xs with
 |[.d a]=>(aQ a).bind fun ds=>some (.c M.length,M++[.lst (ds.map .d)])
 |[.c i]=>match M[i]? with
  |some (.lst ys)=>some (.c M.length,M++[.lst ys])
  |_=>none
 |_=>none
theorem XG:PN K (VG K) CW:=by
 intro xs M z M' h W H vs Q G r k;unfold CW at h;split at h
 .rename_i a;obtain⟨ds,h1,h⟩:=aH h;cases h;rcases r with _|⟨r1,_|_⟩;obtain⟨p,us,rfl,hs,hr⟩:=mF (show Rep K W.F a _ from r1) h1;refine⟨p,us,rfl,hs.elim (fun q=>.inl (G.fh.seq q)) (fun q=>.inr (G.fh.seqT q)),fun l hl=>?_⟩;exact k _ (W.more l) _ (W.ext_more l) (G.new hl (c:=.lst (ds.map .d)) (o:=.lst us) (gU hr)) G.newV
 .rename_i i;split at h
  .rename_i ys hy;cases h;rcases r with _|⟨r1,_|_⟩;obtain⟨us,hv,hr⟩:=G.lstAt hy;refine⟨_,us,by rw[r1.2],.inl (SqL.of hv),fun l hl=>?_⟩;exact k _ (W.more l) _ (W.ext_more l) (G.new hl (c:=.lst ys) (o:=.lst us) hr) G.newV
  .cases h
 .cases h
theorem aBg{ι:Type}{X:ι->Cx}(hK:∀i,(X i).K=K):QN K X (.type "list") CW:=⟨_,fun i=>aHO (hK i),XG⟩
noncomputable def eqC(neg:Bool):F2:=fun x y M=>(snap 5 M x).bind fun a=>(snap 5 M y).bind fun b=>if (SeqAt.shaped a&&SeqAt.shaped b)=true then some (.d (.bool (if neg then !PyData.eqv a b else PyData.eqv a b)),M)else none
theorem aGu{neg:Bool}:P2 K (NT K neg) (eqC neg):=by
 intro x y M z M' h W H v u Q G rx ry k;obtain⟨a,h1,h⟩:=aH h;obtain⟨b,h2,h⟩:=aH h;by_cases hs:(SeqAt.shaped a&&SeqAt.shaped b)=true
 .rw[A3 hs]at h;cases h;rw[B3]at hs;exact⟨a,b,AK G 5 x a v h1 rx,AK G 5 y b u h2 ry,hs.1,hs.2,k _ W H (.refl _) G rfl⟩
 .rw[A7 hs]at h;cases h
noncomputable def eqY(neg:Bool):F2:=KH (eqX neg) (eqC neg)
theorem aJa{ι:Type}{X:ι->Cx}(hK:∀i,(X i).K=K)(hu:∀i,(X i).A.units+64<cLine):Q2 K X (compareOp .Eq) (eqY false):=⟨_,fun i=>(kEq (hK i) (hu i)).or (show OpR (X i) (compareOp .Eq) (NT K false)by have:=YH (X:=X i) (hu i);rw[hK i]at this;exact this),P2.or YI aGu⟩
end
section
variable{X:Cx}{pins:List (Addr×Obj)}{σ:St}{H:Hp}{s:Shared}{a:Addr}{y v:V}{u r:Value}{A:Around}{E:Value->Shared->Prop}
theorem TK{H':Hp}{Q:Unit->Shared->Prop}(hu:A.units<cLine)(I:Inv X pins σ H s)(g:AE H a y v H')(ry:RelV y u)(rv:RelV v r)(h:∀s',Inv X pins σ H' s'->Q () s'):
 wpAny (model X.prog X.w) A (dictSet a u r) Q E s:=by
 rcases g with⟨kvs,k,e,ey,l,eH⟩|⟨kvs,k,b,e,ey,eb,l,eH⟩
 .subst ey eH;obtain⟨z,hd,vs,rel,dd⟩:=PV I.hok e;have hz:vs.length<=sizeLine:=by rw[<- rel.length];exact z
  have hl:(putK kvs k v).length<=sizeLine:=by have:=jK kvs k v;omega
  refine wpAny_dictSet_pairs (hsz:=hz) (AV ry) dd fun h' dd' hs=>h _ ?_;have he:∃q,h'.get? a=some q:=let⟨q,_,_,hq,_⟩:=dd';⟨q,hq⟩;exact vF I (by rw[e];exact True.intro) hs he (NY hl hd (rel.put k rv) dd')
 .subst ey eH;cases (show u=Value.ref b from ry);obtain⟨z,hd,xs,rel,dd⟩:=aDA I.hok e;have hz:xs.length<=sizeLine:=by rw[<- A0e rel];exact z
  have hl:(putK kvs k v).length<=sizeLine:=by have:=jK kvs k v;omega
  refine wpAny_dictSet_heap (hsz:=hz) hu (wJ I.hok eb) dd fun h' dd' hs=>h _ ?_;obtain⟨q,es,ep,hq,h2,h3,h4,_,h5⟩:=dd';refine vF I (by rw[e];exact True.intro) hs ⟨q,hq⟩ ⟨hl,hd,_,(rel.put k eb rv).keeps fun c ys ec=>?_,q,es,ep,hq,h2,h3,h4,h5⟩;rw[aV (aDH ec e (fun z=>nomatch z))];exact ec
end
section
variable{prog:Program}{w:World}{A:Around}{R:Result->Shared->Prop}{s:Shared}
theorem aCm{kx vx target iter:Expr}{ifs:List Expr}{scope:Scope}{pos:Pos}{it:Value}{D:Addr}{env:Env}(I:Nat->Shared->Prop)
 (turn:∀n s,I n s->wpAny (model prog w) A (pyNext it) (fun r s1=>(r=none/\R (.ok .next) s1)\/∃v,r=some v /\
  wpAny (model prog w) A (letOwnedTupleGo target it v) (fun _ s2=>wpAny (model prog w) A (assign target env v) (fun _ s3=>
   wpAny (model prog w) A (forIn ifs true fun c r=>if r=true then(do
    let ok <- isTrue c env (eval c env)
    pure (ForInStep.yield ok))else pure (ForInStep.yield r)) (fun ok s4=>
     (ok=true/\wpAny (model prog w) A (eval kx env) (fun kv s5=>wpAny (model prog w) A (eval vx env) (fun vv s6=>wpAny (model prog w) A (dictSet D kv vv) (fun _ s7=>∃m,m<n/\I m s7) (fun _ _=>False) s6) (fun _ _=>False) s5) (fun _ _=>False) s4) \/
     (ok=false/\∃m,m<n/\I m s4)) (fun _ _=>False) s3) (fun _ _=>False) s2) (fun _ _=>False) s1) (fun _ _=>False) s)
 (n:Nat) (h:I n s):codeAny (model prog w) A (.compLoop (.DictComp kx vx [⟨target,iter,ifs,0⟩] scope pos) 0 it (.ref D) env) R s:=by
 refine codeAny_loop rfl I (fun n s hI=>?_) n h
 show wpAny _ A ((compTurn (.DictComp kx vx [⟨target,iter,ifs,0⟩] scope pos) 0 it (.ref D) env).onRaise fun x=>do
  noteFrame x env
  theTreesLotGoes x) _ _ s
 refine wpAny_noted ?_;rw[compTurn_dict];refine A1 (Z4 (A1 (E1 (turn n s hI) (fun r s1 h1=>?_) fun _ _ f=>f.elim)));rcases h1 with⟨rfl,h1⟩|⟨v,rfl,h1⟩
 .exact B5 h1
 .refine A1 (E1 h1 (fun _ s2 h2=>?_) fun _ _ f=>f.elim);refine A1 (E1 h2 (fun _ s3 h3=>?_) fun _ _ f=>f.elim);refine A1 (E1 h3 (fun ok s4 h4=>?_) fun _ _ f=>f.elim);rcases h4 with⟨rfl,h4⟩|⟨rfl,h4⟩
  .refine A1 (A1 (E1 h4 (fun kv s5 h5=>?_) fun _ _ f=>f.elim));refine A1 (J1 (E1 h5 (fun vv s6 h6=>?_) fun _ _ f=>f.elim));refine A1 (Z4 (J1 (E1 h6 (fun _ s7 h7=>B5 ⟨rfl,h7⟩) fun _ _ f=>f.elim)))
  .exact B5 ⟨rfl,h4⟩
end
noncomputable def tDc(o0:HO)(cap:List (Option Nat))(wi:TI)(g:TG)(tc:TT)(tk tv:TE):TE:=fun σ H Q=>wi σ H fun J H1=>∀D,H1 D=none->∃W:Nat->Nat->St->Hp->Prop,(∃m,W 0 m (yA cap σ) (upd H1 D o0))/\∀i m σ' H',W i m σ' H'->
 (J.stop i H'/\Q (.ref D) H') \/
 (J.go i H'/\∃N:St->Hp->Prop,(∀σ2 H2,N σ2 H2->∃m',m'<m/\W (i+1) m' σ2 H2)/\∀x H2,J.yld i H' x H2->g x σ' H2 fun σ2 H3=>tc σ2 H3 fun b H4=>(b=true/\tk σ2 H4 fun y H5=>tv σ2 H5 fun v H6=>∃H7,AE H6 D y v H7/\N σ2 H7)\/(b=false/\N σ2 H4))
section
variable{X:Cx}{N':List Str}{cap:List (Option Nat)}{scope:Scope}
theorem YS{o0:HO}(ho:o0=.dT []\/o0=.dK []){kx vx tg iter:Expr}{ifs:List Expr}{pos:Pos}{wi:TI}{g:TG}{tc:TT}{tk tv:TE}(hu:X.A.units<cLine)(hc:X.calm=true)(S:pW X N' cap scope)(hi:PI X tg iter wi)
 (hg:∀C s H fp pn,PG (fK X N' scope C s H fp pn) tg g) (hif:∀C s H fp pn,HV (fK X N' scope C s H fp pn) ifs tc) (hk:∀C s H fp pn,PE (fK X N' scope C s H fp pn) kx tk) (hv:∀C s H fp pn,PE (fK X N' scope C s H fp pn) vx tv)
 (hs:∀x,foldedSetIterable iter X.env x=pure x) {pins:List (Addr×Obj)} {s:Shared} {σ:St} {H:Hp} {Q:VK} (I:Inv X pins σ H s) (h:tDc o0 cap wi g tc tk tv σ H Q) {use:Option (Value->Sem Unit)} {QQ:Value->Shared->Prop}
 (post:∀(D C:Addr)(H':Hp)(s':Shared),(∃m,s'.heap.Ns C m)->(∀h',Heap.SameBut C s'.heap h'->Inv X pins σ H' { s' with heap:=h' })->pY X pins H' C->Q (.ref D) H'->compPost (model X.prog X.w) X.A X.xe use QQ (.ref D) C (.ok .next) s'):
 wpAny (model X.prog X.w) X.A (comprehension (.DictComp kx vx [⟨tg,iter,ifs,0⟩] scope pos) scope X.env (firstIterPos [⟨tg,iter,ifs,0⟩] pos) newDict false (firstIter [⟨tg,iter,ifs,0⟩] X.env) use) QQ X.xe s:=by
 refine wpAny_comprehension_free (e:=.DictComp kx vx [⟨tg,iter,ifs,0⟩] scope pos) (g:=⟨tg,iter,ifs,0⟩) (gs:=[]) rfl hs (BS (S.cells I.ok)) S.kind S.names ?_;refine thn (hi pins s σ H _ I h) fun v s1 h1=>thn h1 fun itv s2 h2=>?_;obtain⟨it,fp,tn,J,H2,e,I2,T,st2,f2,hD⟩:=h2;subst e
 have fplt2:∀b∈fp,b<s2.heap.objs.size:=fun b hb=>by
  obtain⟨o,e,_⟩:=T.obj _ _ st2 b hb;exact B9 e
 refine E2 ?_;obtain⟨W,⟨m0,w0⟩,turn⟩:=hD s2.heap.objs.size (I2.hok.fresh (A6 _));generalize hDn:s2.heap.objs.size=D at *
 have I3:Inv X pins σ (upd H2 D o0) { s2 with heap:=s2.heap.push { cls:=.type "dict",data:=.dict #[] } }:=by
  refine I2.laid (t':=s2.toks) (fun _ _ q=>A4 _ q) (Nat.le_of_eq hDn) ?_;rcases ho with rfl|rfl
  .rw[<- hDn];exact YE _ I2.big
  .rw[<- hDn];exact AO _ I2.big
 have st3:tn 0 (s2.heap.push { cls:=.type "dict",data:=.dict #[] }):=T.keep _ _ _ st2 fun b _ o e=>A4 _ e
 have f3:∀b∈fp,pY X pins (upd H2 D o0) b:=fun b hb=>by
  obtain⟨q0,q1⟩:=f2 b hb;exact⟨by rw[aV (C7 (fplt2 b hb))];exact q0,q1⟩
 generalize hs3:({ s2 with heap:=s2.heap.push { cls:=.type "dict",data:=.dict #[] } }:Shared)=s3 at I3 ⊢;have st3:tn 0 s3.heap:=by rw[<- hs3];exact st3
 have fplt:∀b∈fp,b<s3.heap.objs.size:=fun b hb=>by
  obtain⟨o,e,_⟩:=T.obj _ _ st3 b hb;exact B9 e
 refine wpAny_newFunctionEnv S.nocell (fun y hy=>by simp at hy) (fun h1' hns hsb=>?_) S.kind;have old:∀b o,s3.heap.get? b=some o->h1'.get? b=some o:=fun b o e=>hsb.extBut b o (C7 (B9 e)) (A4 _ e)
 have I4:Inv (fK X N' scope s3.heap.objs.size s3 (upd H2 D o0) fp pins) [] (yA cap σ) (upd H2 D o0) { s3 with heap:=h1',toks:=s3.toks+([]:List (Str×Value)).length }:=
  KM S I3 f3 fplt (A6 _) (by simpa using hns) old
 have loop:∀s4:Shared,s4={ s3 with heap:=h1',toks:=s3.toks+([]:List (Str×Value)).length }->
  codeAny (model X.prog X.w) X.A (.compLoop (.DictComp kx vx [⟨tg,iter,ifs,0⟩] scope pos) 0 (.ref it) (.ref D) (compEnvC scope (fW X.env scope.names []) s3.heap.objs.size X.env)) (compPost (model X.prog X.w) X.A X.xe use QQ (.ref D) s3.heap.objs.size) s4:=by
  rintro s4 rfl
  have stat:∀{Hx:Hp},(∀b∈fp,Hx b=none)->∀b∈fp,pY (fK X N' scope s3.heap.objs.size s3 (upd H2 D o0) fp pins) [] Hx b:=fun{Hx} hn b hb=>by
   refine⟨hn b hb,C7 (fplt b hb),I3.stkAll (f3 b hb).2.1 (f3 b hb).2.2.1,.inl hb,fun x c e=>(f3 b hb).2.2.2.2.1 x c (S.sub I3.ok x c e),fun p hp=>?_⟩;rcases List.mem_append.mp hp with z|z
   .exact(f3 b hb).2.2.2.2.2 p z
   .exact absurd z (by simp)
  refine aCm (fun n s'=>∃(i:Nat)(σ':St)(H':Hp),Inv (fK X N' scope s3.heap.objs.size s3 (upd H2 D o0) fp pins) [] σ' H' s'/\tn i s'.heap/\(∀b∈fp,H' b=none)/\W i n σ' H') ?_ m0
   ⟨0,yA cap σ,_,I4,T.keep _ _ _ st3 fun b _ o e=>old b o e,fun b hb=>(f3 b hb).1,w0⟩
  rintro n s5 ⟨i,σ',H',I5,t5,fr5,w5⟩;rcases turn i n σ' H' w5 with⟨stop,q⟩|⟨go,N,hN,step⟩
  .refine thn (T.done (fK X N' scope s3.heap.objs.size s3 (upd H2 D o0) fp pins) rfl rfl rfl hc i _ s5 σ' H' _ I5 (stat fr5) t5 stop) fun r s6 ⟨hr,I6⟩=>.inl ⟨hr,?_⟩;have nC:H' s3.heap.objs.size=none:=I6.free;refine post D _ H' s6 (let⟨m,hn,_⟩:=I6.loc;⟨m,hn⟩) (fun h' hs'=>?_) (I3.fpOk (A6 _) nC) q;have up:∀b o,b≠s3.heap.objs.size->s6.heap.get? b=some o->h'.get? b=some o:=fun b o hb e=>hs'.extBut b o hb e;have ltC:∀b o,s3.heap.get? b=some o->b≠s3.heap.objs.size:=fun b o e=>C7 (B9 e);have u6:Un (frs X.stack) fp (upd H2 D o0) H' s3.heap s6.heap:=I6.base
   have u7:Un (frs X.stack) fp (upd H2 D o0) H' s3.heap h':=by
    refine⟨fun b o e n hb hx=>up b o (ltC b o e) (u6.keep b o e n hb hx),fun b o e n hb hx=>?_,u6.free,fun b o e hx=>?_,u6.tups,u6.frzs,u6.tbls⟩
    .obtain⟨sl,q⟩:=u6.slot b o e n hb hx;exact⟨sl,up b _ (ltC b o e) q⟩
    .obtain⟨o',q⟩:=u6.there b o e hx;exact⟨o',up b o' (ltC b o e) q⟩
   have ok7:HOk X.prog X.w H' h':=fun b u e=>by
    refine(I6.hok b u e).stay (fun c v hc' z=>up c v ?_ z) (fun c z=>z) fun c xs z=>z;rcases hc' with rfl|z
    .exact aU e nC
    .exact aU z nC
   have os6:s6.os=s3.os:=I6.os;have ba6:=I6.bare;obtain⟨hh,gg,dd,tt,oo⟩:=s6;subst os6;have z7:=I3.call (s:=s3) (h':=h') (g':=gg) (d':=dd) (t':=tt) (ch:=fp) u7 ok7 ba6 fun b hb=>⟨(f3 b hb).2.2.2.1,(f3 b hb).2.1,(f3 b hb).2.2.2.2.1,(f3 b hb).2.2.2.2.2⟩;exact z7
  .refine thn (T.item (fK X N' scope s3.heap.objs.size s3 (upd H2 D o0) fp pins) rfl rfl rfl hc i _ s5 σ' H' _ I5 (stat fr5) t5 go) fun r s6 ⟨u,hr,h6⟩=>.inr ⟨u,hr,?_⟩;refine thn h6 fun _ s7 ⟨x,H7,I7,r7,y7,t7,fr7⟩=>?_;have I7':=I7.pinned (stat fr7) (T.obj _ _ t7)
   have back:∀{σx:St}{Hx:Hp}{sx:Shared},Inv (fK X N' scope s3.heap.objs.size s3 (upd H2 D o0) fp pins) ([]++wH fp s7.heap) σx Hx sx->(∀b∈fp,∀o,s7.heap.get? b=some o->sx.heap.get? b=some o)/\(∀b∈fp,Hx b=none):=fun{σx Hx sx} Ix=>by
    refine⟨fun b hb o e=>(Ix.pin (b,o) (C0 _ (C0 _ (iP hb e)))).1,fun b hb=>?_⟩;obtain⟨o,e,_⟩:=T.obj _ _ t7 b hb;exact(Ix.pin (b,o) (C0 _ (C0 _ (iP hb e)))).2.1
   refine thn (hg _ _ _ _ _ _ s7 σ' H7 x u _ I7' r7 (step x H7 y7)) fun _ s8 ⟨σ8,H8,I8,q8⟩=>?_;refine thn (hif _ _ _ _ _ _ s8 σ8 H8 _ I8 q8) fun b s9 ⟨H9,I9,q9⟩=>?_;rcases q9 with⟨rfl,q9⟩|⟨rfl,n9⟩
   .refine .inl ⟨rfl,thn (hk _ _ _ _ _ _ s9 σ8 H9 _ I9 q9) fun uk s10 ⟨y,H10,I10,ry,q10⟩=>thn (hv _ _ _ _ _ _ s10 σ8 H10 _ I10 q10) fun uv s11 ⟨v,H11,I11,rv,H12,g12,n12⟩=>?_⟩;obtain⟨m',hm,w12⟩:=hN _ _ n12;refine TK (X:=fK X N' scope s3.heap.objs.size s3 (upd H2 D o0) fp pins) hu I11 g12 ry rv fun s12 I12=>?_;obtain⟨b1,b2⟩:=back I12;exact⟨m',hm,i+1,σ8,H12,I12.pins_of fun p hp=>absurd hp (by simp),T.keep _ _ _ t7 b1,b2,w12⟩
   .obtain⟨m',hm,w9⟩:=hN _ _ n9;obtain⟨b1,b2⟩:=back I9;exact .inr ⟨rfl,m',hm,i+1,σ8,H9,I9.pins_of fun p hp=>absurd hp (by simp),T.keep _ _ _ t7 b1,b2,w9⟩
 exact codeAny_compStart_dict (loop _ rfl) (T.self _ 0 _ _ _ (T.keep _ _ _ st3 fun b _ o e=>old b o e) (loop _ rfl))
theorem pe_dc{o0:HO}(ho:o0=.dT []\/o0=.dK []){kx vx tg iter:Expr}{ifs:List Expr}{pos:Pos}{wi:TI}{g:TG}{tc:TT}{tk tv:TE}(hu:X.A.units<cLine)(hc:X.calm=true)(S:pW X N' cap scope)(hi:PI X tg iter wi)
 (hg:∀C s H fp pn,PG (fK X N' scope C s H fp pn) tg g) (hif:∀C s H fp pn,HV (fK X N' scope C s H fp pn) ifs tc) (hk:∀C s H fp pn,PE (fK X N' scope C s H fp pn) kx tk) (hv:∀C s H fp pn,PE (fK X N' scope C s H fp pn) vx tv)
 (hs:∀x,foldedSetIterable iter X.env x=pure x:=by intro _;rfl):PE X (.DictComp kx vx [⟨tg,iter,ifs,0⟩] scope pos) (tDc o0 cap wi g tc tk tv):=fun pins s σ H Q I h=>
 YS (use:=none) ho hu hc S hi hg hif hk hv hs I h fun D _ H' _ ⟨m,hn⟩ hI _ q=>⟨m,hn,fun h' hs'=>⟨.ref D,H',hI h' hs',rfl,q⟩⟩
theorem ZG{i:Nat}{x:Str}{o0:HO}(ho:o0=.dT []\/o0=.dK []){kx vx tg iter:Expr}{ifs:List Expr}{pos pos' pos'':Pos}{wi:TI}{g:TG}{tc:TT}{tk tv:TE}(hN:X.N.Nodup)(hix:X.N[i]?=some x)(hu:X.A.units<cLine)(hc:X.calm=true)(S:pW X N' cap scope)(hi:PI X tg iter wi)
 (hg:∀C s H fp pn,PG (fK X N' scope C s H fp pn) tg g) (hif:∀C s H fp pn,HV (fK X N' scope C s H fp pn) ifs tc) (hk:∀C s H fp pn,PE (fK X N' scope C s H fp pn) kx tk) (hv:∀C s H fp pn,PE (fK X N' scope C s H fp pn) vx tv)
 (hsw:swapsWith (.DictComp kx vx [⟨tg,iter,ifs,0⟩] scope pos) (some (.Name x pos')) pos''.line X.env=pure true) (hx:X.env.scope.names.lookup x=some .local)
 (hs:∀x,foldedSetIterable iter X.env x=pure x):PS X (.Assign [.Name x pos'] (.DictComp kx vx [⟨tg,iter,ifs,0⟩] scope pos) pos'') (WI (tDc o0 cap wi g tc tk tv) (zT i)):=by
 intro pins s σ H D I h;rw[exec_Assign_Name_used _ _ _ _ hsw];refine A1 (Z4 (A1 ?_));show wpAny _ _ (comprehension (.DictComp kx vx [⟨tg,iter,ifs,0⟩] scope pos) scope X.env _ newDict false (firstIter [⟨tg,iter,ifs,0⟩] X.env) (some (assign (.Name x pos') X.env)) >>= fun _=>pure ()) _ _ s;refine A1 (thn (YS (use:=some (assign (.Name x pos') X.env)) (QQ:=fun _ s'=>∃σ' H',Inv X pins σ' H' s'/\D.nx σ' H') (Q:=fun v H1=>zT i v σ H1 D.nx) ho hu hc S hi hg hif hk hv hs I h fun E C H' s' ⟨m,hn⟩ hI fC hq=>?_) fun _ s' hz=>B5 (B5 hz));have I1:Inv X pins σ H' s':=hI s'.heap (Heap.SameBut.refl ..);refine wpAny_assign_Name (vT (M:=model X.prog X.w) (A:=X.A) (E:=X.xe) I1 hN hix (.inl hx) (v:=.ref E) (u:=.ref E) rfl (fun s2 I2 hsb=>?_) (.inr hx));obtain⟨a,hs2,ha⟩:=hsb
 have hne:C≠a:=by
  rcases ha with z|z
  .rw[z];exact fC.2.1
  .exact fun w=>fC.2.2.2.2.1 x a z w.symm
 refine⟨m,hn.extBut hs2.extBut hne,fun h' hs'=>?_⟩;exact⟨_,_,I2.turned (t':=s2.toks) (fun b o hb e=>hs'.extBut b o hb e) fC.1 fC.2.1 fC.2.2.2.1 fC.2.2.2.2.1 fC.2.2.2.2.2,hq⟩
end
noncomputable def dcF(d:Nat)(g:GF)(c:TF)(fk:KF)(e:EF):List CD->Ga->Sto->Option Sto
 |[],_,M=>some M
 |x::xs,γ,M=>(g x γ M).bind fun a=>(c a.1 a.2).bind fun b=>if b.1=true then(fk a.1 b.2).bind fun k=>(e a.1 k.2).bind fun v=>(yH v.2 (.c d) k.1 v.1).bind fun M'=>dcF d g c fk e xs a.1 M' else dcF d g c fk e xs a.1 b.2
noncomputable def fDc(c0:Cell)(cap:List (Option Nat))(f:AF)(g:GF)(c:TF)(fk:KF)(e:EF):EF:=fun γ M=>(f γ M).bind fun r=>(dcF r.2.length g c fk e r.1 (CC cap γ) (r.2++[c0])).bind fun M'=>some (.c r.2.length,M')
section
variable{K:Fg}{tg:TG}{tt:TT}{hg:GF}{ft:TF}{fa:AF}
theorem aHM{o0:HO}{c0:Cell}(h0:(o0=.dT []/\c0=.dt [])\/(o0=.dK []/\c0=.dk [])){wi:TI}{cap:List (Option Nat)}{tk tv:TE}{fk:KF}{fe:EF}(i:SI K wi fa)(a:SG K tg hg)(c:STt K tt ft)(b:SK K tk fk)(e:SE K tv fe):
 SE K (tDc o0 cap wi tg tt tk tv) (fDc c0 cap fa hg ft fk fe):=by
 intro γ M x M' hh W H σ Q G R k;obtain⟨⟨ys,M1⟩,h1,hh⟩:=aH hh;obtain⟨M9,h9,hh⟩:=aH hh;cases hh;refine i _ _ _ _ h1 W H σ _ G R fun J W1 H1 e1 G1 gv=>fun D hD=>?_;have G2:Good K (W1.more D) (M1++[c0]) (upd H1 D o0):=G1.new hD (by rcases h0 with⟨rfl,rfl⟩|⟨rfl,rfl⟩<;>exact .nil);have e2:=W1.ext_more D;have rD:cH K (W1.more D) (.c M1.length) (.ref D):=G1.newV;refine⟨fun j m σ' H'=>∃γ' M3 W3,j<=ys.length/\m=ys.length-j/\(W1.more D).Ext W3/\Good K W3 M3 H'/\dC K W3 γ' σ'/\dcF M1.length hg ft fk fe (ys.drop j) γ' M3=some M',⟨_,CC cap γ,_,_,E5 _,rfl,.refl _,G2,GH ((R.up e1).up e2) cap,h9⟩,?_⟩;rintro j m σ' H' ⟨γ',M3,W3,hj,rfl,e3,G3,R3,h3⟩;obtain⟨gv1,gv2⟩:=gv W3 M3 H' (e2.trans e3) G3;by_cases hlt:j<ys.length
 .obtain⟨go,yl⟩:=gv1 j ys[j] (B8 hlt);rw[Y4 hlt]at h3;refine .inr ⟨go,fun σ4 H4=>∃γ4 M4 W4,W3.Ext W4/\Good K W4 M4 H4/\dC K W4 γ4 σ4/\dcF M1.length hg ft fk fe (ys.drop (j+1)) γ4 M4=some M',?_,fun y H4 hy=>?_⟩
  .rintro σ4 H4 ⟨γ4,M4,W4,e4,G4,R4,h4⟩;exact⟨_,by omega,γ4,M4,W4,hlt,rfl,e3.trans e4,G4,R4,h4⟩
  .obtain⟨W8,e8,G8,ry⟩:=yl y H4 hy;obtain⟨⟨γ5,M5⟩,h5,h3⟩:=aH (show(hg ys[j] γ' M3).bind _=_ from h3);obtain⟨⟨b6,M6⟩,h6,h3⟩:=aH h3;refine a _ _ _ _ _ h5 W8 _ σ' y _ G8 (R3.up e8) ry fun σ5 W5 H5 e5 G5 R5=>?_;refine c _ _ _ _ h6 W5 H5 σ5 _ G5 R5 fun W6 H6 e6 G6=>?_;have e36:=(e8.trans e5).trans e6;cases b6 with
   |true=>
    rw[A3 rfl]at h3;obtain⟨⟨ky,M7⟩,h7,h3⟩:=aH h3;obtain⟨⟨z,M10⟩,h10,h3⟩:=aH h3;obtain⟨M11,h11,h3⟩:=aH h3;refine .inl ⟨rfl,b _ _ _ _ h7 W6 H6 σ5 _ G6 (R5.up e6) fun yv W7 H7 e7 G7 r7=>e _ _ _ _ h10 W7 H7 σ5 _ G7 (R5.up (e6.trans e7)) fun v W10 H10 e10 G10 r10=>?_⟩;have e310:=(e36.trans e7).trans e10;obtain⟨p,H11,ep,g11,G11⟩:=IU G10 h11 (rD.up (e3.trans e310)) (r7.up e10) r10;cases ep;exact⟨H11,g11,γ5,M11,W10,e310,G11,R5.up ((e6.trans e7).trans e10),h3⟩
   |false=>
    rw[A7 A8]at h3;exact .inr ⟨rfl,γ5,M6,W6,e36,G6,R5.up e6,h3⟩
 .have ej:j=ys.length:=by omega
  subst ej;rw[List.drop_length]at h3;cases h3;exact .inl ⟨gv2,k _ W3 H' ((e1.trans e2).trans e3) G3 (rD.up e3)⟩
variable{ι:Type}{X:ι->Cx}{N':List Str}{cap:List (Option Nat)}{scope:Scope}{tg' iter kx vx:Expr}{ifs:List Expr}{gf:GF}{fk:KF}{f:EF}{pos:Pos}
theorem QY(i:Nat){x':Str}{pos' pos'':Pos}(hN:∀j,(X j).N.Nodup)(hu:∀i,(X i).A.units<cLine)(hc:∀i,(X i).calm=true)(S:∀i,pW (X i) N' cap scope)(x:MI K X tg' iter fa)(y:MG K (sV X N' scope) tg' gf)(z:MF K (sV X N' scope) ifs ft)(w:MK K (sV X N' scope) kx fk)(q:ME K (sV X N' scope) vx f)(hix:∀j,(X j).N[i]?=some x':=by intro _;rfl)
 (hsw:∀j,swapsWith (.DictComp kx vx [⟨tg',iter,ifs,0⟩] scope pos) (some (.Name x' pos')) pos''.line (X j).env=pure true:=by intro _;rfl) (hx:∀j,(X j).env.scope.names.lookup x'=some .local:=by intro _;rfl) (hs:∀(env:Env)(x:Value),foldedSetIterable iter env x=pure x:=by intro _ _;rfl):
 MS K X (.Assign [.Name x' pos'] (.DictComp kx vx [⟨tg',iter,ifs,0⟩] scope pos) pos'') (aZ (fDc (.dk []) cap fa gf ft fk f) (hName i)):=by
 obtain⟨t,x1,x2⟩:=x.ex;obtain⟨u,y1,y2⟩:=y.ex;obtain⟨v,z1,z2⟩:=z.ex;obtain⟨o,w1,w2⟩:=w.ex;obtain⟨p,q1,q2⟩:=q.ex;exact⟨_,fun j=>ZG (.inr rfl) (hN j) (hix j) (hu j) (hc j) (S j) (x1 j) (fun C s H fp pn=>y1 (j,C,s,H,fp,pn)) (fun C s H fp pn=>z1 (j,C,s,H,fp,pn)) (fun C s H fp pn=>w1 (j,C,s,H,fp,pn)) (fun C s H fp pn=>q1 (j,C,s,H,fp,pn)) (hsw j) (hx j) (hs _),HB (aHM (.inr ⟨rfl,rfl⟩) x2 y2 z2 w2 q2) yM⟩
end
theorem eE.u1{k:Nat}(r:eE k A):A.units+1<cLine:=by have:=r.un;omega
theorem eE.u0{k:Nat}(r:eE k A):A.units<cLine:=by have:=r.un;omega
noncomputable abbrev IPF:=Ga->Sto->Option ((List CD×(Sto->Prop))×Sto)
noncomputable def aEq(K:Fg)(J:It)(P:Sto->Prop)(xs:List CD)(W:Wd):Prop:=∀W' M' H',W.Ext W'->Good K W' M' H'->P M'->
 (∀i x,xs[i]?=some x->J.go i H'/\∀y H'',J.yld i H' y H''->∃W'',W'.Ext W''/\Good K W'' M' H''/\cH K W'' x y)/\J.stop xs.length H'
noncomputable def SIP(K:Fg)(wi:TI)(f:IPF):Prop:=∀γ M xs P M',f γ M=some ((xs,P),M')->∀(W:Wd)(H:Hp)(σ:St)(R:It->Hp->Prop),Good K W M H->dC K W γ σ->(∀J W' H',W.Ext W'->Good K W' M' H'->aEq K J P xs W'->R J H')->wi σ H R
noncomputable def walked(M:Sto):CD->Option (List CD×(Sto->Prop))
 |.d x=>(aQ x).bind fun ds=>some (ds.map .d,fun _=>True)
 |.c i=>match M[i]? with
  |some (.lst xs)=>some (xs,fun M'=>M'[i]?=some (.lst xs))
  |_=>none
 |_=>none
noncomputable def sA(f:EF):IPF:=fun γ M=>(f γ M).bind fun r=>(walked r.2 r.1).bind fun p=>some (p,r.2)
open Classical in
noncomputable def yF(P:Sto->Prop)(g:GF)(b:SF):List CD->Ga->Sto->Option (Out×Sto)
 |[],γ,M=>if P M then some (.nx γ,M)else none
 |x::xs,γ,M=>if P M then(g x γ M).bind fun r=>(b r.1 r.2).bind fun q=>match q.1 with
  |.nx γ'=>yF P g b xs γ' q.2
  |.ct γ'=>yF P g b xs γ' q.2
  |.bk γ'=>some (.nx γ',q.2)
  |.rt x=>some (.rt x,q.2)else none
noncomputable def DR(f:IPF)(g:GF)(b:SF):SF:=fun γ M=>(f γ M).bind fun r=>yF r.1.2 g b r.1.1 γ r.2
section
variable{K:Fg}{ta:TE}{f:EF}{fp:IPF}{tg:TG}{hg:GF}{t:TS}{p:SF}
theorem NX{M:Sto}{x:CD}{v:V}{xs:List CD}{P:Sto->Prop}(h:walked M x=some (xs,P))(G:Good K W M H)(r:cH K W x v):
 ∃a,v=.ref a/\((∃vs,SqL K H a vs)/\(∀W' M' H',W.Ext W'->Good K W' M' H'->P M'->∃vs,SqL K H' a vs/\cA K W' xs vs)\/(∃vs,SqT K H a vs)/\∀W' M' H',W.Ext W'->Good K W' M' H'->P M'->∃vs,SqT K H' a vs/\cA K W' xs vs):=by
 unfold walked at h;split at h
 .rename_i y;obtain⟨ds,h2,h⟩:=aH h;cases h;obtain⟨a,vs,rfl,hs,hr⟩:=mF (show Rep K W.F y v from r) h2;refine⟨a,rfl,?_⟩;rcases hs with hs|hs
  .exact .inl ⟨⟨vs,G.fh.seq hs⟩,fun W' M' H' e G' _=>⟨vs,G'.fh.seq (e.ff.seq hs),cA.up (gU hr) e⟩⟩
  .exact .inr ⟨⟨vs,G.fh.seqT hs⟩,fun W' M' H' e G' _=>⟨vs,G'.fh.seqT (e.ff.seqT hs),cA.up (gU hr) e⟩⟩
 .rename_i i;split at h
  .rename_i ys hy;cases h;obtain⟨vs,hv,hr⟩:=G.lstAt hy;refine⟨_,r.2,.inl ⟨⟨vs,SqL.of hv⟩,fun W' M' H' e G' hP=>?_⟩⟩;obtain⟨us,hu,hr'⟩:=G'.lstAt hP;rw[e.al i r.1]at hu;exact⟨us,SqL.of hu,hr'⟩
  .cases h
 .cases h
theorem aBD(a:SE K ta f):SIP K (aCv K ta) (sA f):=by
 intro γ M xs P M' hh W H σ R G Rs k;obtain⟨⟨y,M1⟩,h1,hh⟩:=aH hh;obtain⟨q,h2,hh⟩:=aH hh;cases hh;refine a _ _ _ _ h1 W H σ _ G Rs fun v W1 H1 e1 G1 r1=>?_;obtain⟨l,rfl,hw⟩:=NX h2 G1 r1;refine⟨l,rfl,?_⟩;rcases hw with⟨⟨vs,hv⟩,hw⟩|⟨⟨vs,hv⟩,hw⟩
 .refine .inl ⟨vs,hv,k _ W1 H1 e1 G1 fun W2 M2 H2 e2 G2 hP=>?_⟩;obtain⟨us,hu,hr⟩:=hw W2 M2 H2 e2 G2 hP;refine⟨fun i x hx=>?_,us,hu,by rw[Paired.len hr];exact A6 _⟩;obtain⟨u,hu',ru⟩:=Paired.get hr hx;refine⟨⟨us,u,hu,hu'⟩,fun y H3 hy=>⟨W2,.refl _,by rw[hy.1];exact G2,?_⟩⟩;have:=hy.2 us hu;rw[hu']at this;cases this;exact ru
 .refine .inr ⟨vs,hv,k _ W1 H1 e1 G1 fun W2 M2 H2 e2 G2 hP=>?_⟩;obtain⟨us,hu,hr⟩:=hw W2 M2 H2 e2 G2 hP;refine⟨fun i x hx=>?_,us,hu,by rw[Paired.len hr];exact A6 _⟩;obtain⟨u,hu',ru⟩:=Paired.get hr hx;refine⟨⟨us,u,hu,hu'⟩,fun y H3 hy=>⟨W2,.refl _,by rw[hy.1];exact G2,?_⟩⟩;have:=hy.2 us hu;rw[hu']at this;cases this;exact ru
theorem aBS{wi:TI}(i:SIP K wi fp)(a:SG K tg hg)(b:SS K t p):SS K (aFP wi tg t) (DR fp hg p):=by
 intro γ M o M' hh W H σ D G R k;obtain⟨⟨⟨xs,P⟩,M1⟩,h1,hh⟩:=aH hh;have hh:yF P hg p xs γ M1=some (o,M'):=hh;refine i _ _ _ _ _ h1 W H σ _ G R fun J W1 H1 e1 G1 gv=>?_;refine⟨fun j m σ' H'=>∃γ' M2 W2,j<=xs.length/\m=xs.length-j/\W1.Ext W2/\Good K W2 M2 H'/\dC K W2 γ' σ'/\yF P hg p (xs.drop j) γ' M2=some (o,M'),⟨_,γ,M1,W1,E5 _,rfl,.refl _,G1,R.up e1,hh⟩,?_⟩;rintro j m σ' H' ⟨γ',M2,W2,hj,rfl,e2,G2,R2,h2⟩
 have hP:P M2:=by
  by_cases hP:P M2
  .exact hP
  .cases hd:xs.drop j<;>rw[hd]at h2<;>unfold yF at h2<;>rw[A7 hP]at h2<;>cases h2
 obtain⟨gv1,gv2⟩:=gv W2 M2 H' e2 G2 hP;by_cases hlt:j<xs.length
 .obtain⟨go,yl⟩:=gv1 j xs[j] (B8 hlt);rw[Y4 hlt]at h2;unfold yF at h2;rw[A3 hP]at h2;refine .inr ⟨go,fun σ3 H3=>∃γ3 M3 W3,W2.Ext W3/\Good K W3 M3 H3/\dC K W3 γ3 σ3/\yF P hg p (xs.drop (j+1)) γ3 M3=some (o,M'),?_,fun y H3 hy=>?_⟩
  .rintro σ3 H3 ⟨γ3,M3,W3,e3,G3,R3,h3⟩;exact⟨_,by omega,γ3,M3,W3,hlt,rfl,e2.trans e3,G3,R3,h3⟩
  .obtain⟨W8,e8,G8,ry⟩:=yl y H3 hy;obtain⟨⟨γ4,M4⟩,h4,h2⟩:=aH h2;obtain⟨⟨o5,M5⟩,h5,h2⟩:=aH h2;refine a _ _ _ _ _ h4 W8 _ σ' y _ G8 (R2.up e8) ry fun σ4 W4 H4 e4 G4 R4=>?_;refine b _ _ _ _ h5 W4 H4 σ4 _ G4 R4 fun W5 H5 e5 G5=>?_;have e25:=(e8.trans e4).trans e5;cases o5 with
   |nx γ5=>exact fun σ5 R5=>⟨γ5,M5,W5,e25,G5,R5,h2⟩
   |ct γ5=>exact fun σ5 R5=>⟨γ5,M5,W5,e25,G5,R5,h2⟩
   |bk γ5=>cases h2;exact k W5 H5 ((e1.trans e2).trans e25) G5
   |rt x=>cases h2;exact k W5 H5 ((e1.trans e2).trans e25) G5
 .have e:j=xs.length:=by omega
  subst e;rw[List.drop_length]at h2;unfold yF at h2;rw[A3 hP]at h2;cases h2;exact .inl ⟨gv2,k W2 H' (e1.trans e2) G2 σ' R2⟩
end
section
variable{ι:Type}{K:Fg}{X:ι->Cx}{tg iter a:Expr}{es sts':List Expr}{sts:List Stmt}{f:EF}{fa:AF}{gf:GF}{gs:GsF}{sf:SF}{pos:Pos}
theorem aCi(hp:∀i,PassesOwn (model (X i).prog (X i).w) (X i).A (X i).env (X i).xe)(hc:∀i,(X i).calm=true)(hK:∀i,(X i).K=K)(x:ME K X iter f)(y:MG K X tg gf)(z:ML K X sts sf)(hs:∀(env:Env)(x:Value),foldedSetIterable iter env x=pure x:=by intro _ _;rfl):MS K X (.For tg iter sts [] pos) (DR (sA f) gf sf):=by
 obtain⟨t,x1,x2⟩:=x.ex;obtain⟨u,y1,y2⟩:=y.ex;obtain⟨v,z1,z2⟩:=z.ex;exact⟨_,fun i=>UO (hp i) (hc i) (QM (hK i) (x1 i)) (y1 i) (z1 i) (hs _),aBS (aBD x2) y2 z2⟩
end
section
variable{X:Cx}{a b:Expr}{ta:TA}{p p' pos pos':Pos}
noncomputable def yC(lo:Int)(n:Nat):List V:=(List.range n).map fun(i:Nat)=>V.int (lo+(i:Nat))
theorem TN{lo:Int}{n:Nat}{acc:Array Value}(h:ItemsOf (fun i v=>∃t,v=.int (lo+i*1) t) acc n):bE (yC lo n) acc.toList:=by
 have key:∀(k:Nat)(l:List Value)(m:Nat),l.length=k->(∀j v,l[j]?=some v->∃t,v=Value.int (lo+((m+j:Nat):Int)*1) t)->bE ((List.range' m k).map fun(i:Nat)=>V.int (lo+(i:Nat))) l:=by
  intro k
  induction k with
  |zero=>intro l m hl _;rw[List.eq_nil_of_length_eq_zero hl];exact .nil
  |succ k ih=>
   intro l m hl hv
   match l,hl,hv with
   |v::l,hl,hv=>
    obtain⟨t,rfl⟩:=hv 0 v rfl;rw[List.range'_succ,B7];refine .cons ⟨t,by simp⟩ (ih l (m+1) (Nat.succ.inj hl) fun j v e=>?_);obtain⟨t',e'⟩:=hv (j+1) v e;exact⟨t',by rw[e'];congr 2;omega⟩
 have:=key n acc.toList 0 (by rw[A0c];exact h.1) fun j v e=>by
  obtain⟨t,e'⟩:=h.2 j v (by rw[<- U6];exact e);exact⟨t,by rw[e',Nat.zero_add]⟩
 unfold yC;rw[List.range_eq_range'];exact this
theorem aAz{pins:List (Addr×Obj)}{σ:St}{s:Shared}{Q:VK}{lo hi:Int}{t u v:Tok}{tk:Nat}(hc:X.calm=true)(I:Inv X pins σ H s)(h1:-(2 ^ 62)<=lo)(h2:lo<2 ^ 62)(h3:-(2 ^ 62)<=hi)(h4:hi<2 ^ 62)(hz:(hi-lo).toNat<=sizeLine)
 (q:∀l,H l=none->Q (.ref l) (upd H l (.lst (yC lo (hi-lo).toNat)))):
 wpAny (model X.prog X.w) X.A (call (.type "list") [.ref s.heap.objs.size]) (fun v s'=>∃x H',Inv X pins σ H' s'/\RelV x v/\Q x H') X.xe { s with heap:=s.heap.push { cls:=.type "range",data:=.fields #[.int lo t,.int hi u,.int 1 v] },toks:=tk }:=by
 have hsz:(hi-lo).toNat<=2 ^ 24:=by rw[E4]at hz;exact hz
 refine call_list_range (n:=(hi-lo).toNat) (I.ok.hd hc) (IsRange.new ..) (small_one h1 h2 h3 h4) (by rw[rangeSize_one];split<;>omega) hsz fun h' tk' acc c hk hS hacc=>?_;have I1:Inv X pins σ H { s with heap:=s.heap.push { cls:=.type "range",data:=.fields #[.int lo t,.int hi u,.int 1 v] },toks:=tk }:=I.kept fun b o e=>A4 _ e;refine⟨.ref _,upd H _ (.lst (yC lo (hi-lo).toNat)),I1.laid (t':=tk') hk (A6 _) ⟨by rw[yC,A2,U8];exact hz,acc.toList,c,TN hacc,by simpa using hS⟩,rfl,q _ (I1.hok.fresh (A6 _))⟩
noncomputable def XB(ta:TA):TE:=fun σ H Q=>ta σ H fun vs H1=>∃j:Int,vs=[.int j]/\-(2 ^ 62)<=j/\j<2 ^ 62/\j.toNat<=sizeLine/\∀l,H1 l=none->Q (.ref l) (upd H1 l (.lst (yC 0 j.toNat)))
theorem ZU(hc:X.calm=true)(hg:Gl X "range")(hm:X.mg "range"=none)(hgl:Gl X "list")(hml:X.mg "list"=none)(ha:PA X [a] ta)(hs:starEach [a] X.env=[(false,eval a X.env)]):
 PE X (.Call (.Name "list" p) [.Call (.Name "range" p') [a] [] pos'] [] pos) (XB ta):=by
 intro pins s σ H Q I h;refine Z6 (mV I hgl hml boot_list ?_ (by decide) (by decide));refine F9 ?_ DH rfl;rw[DH];show wpAny _ _ (spliced ((false,eval (.Call (.Name "range" p') [a] [] pos') X.env)::[])) _ _ s;refine Calls.spliced_cons ?_;refine Call_ (mV I hg hm boot_range (F9 (thn (ha pos' pins s σ H _ I h) fun us s1 ⟨vs,H1,I1,r1,q1⟩=>?_) hs rfl));obtain⟨j,e,q1,q2,q3,q⟩:=q1;subst e;cases r1 with
 |cons r rr=>
  cases rr;obtain⟨t,rfl⟩:=r;refine call_range_1 (Calls.spliced_nil ?_);exact aAz hc I1 (by omega) (by omega) q1 q2 (by simpa using q3) (by simpa using q)
end
section
variable{K:Fg}{tA:TA}{fa:AF}
noncomputable def TU(lo:Int)(n:Nat):List PyData:=(List.range n).map fun(i:Nat)=>.int (lo+(i:Nat))
noncomputable def tW(cell:Bool)(f:AF):EF:=fun γ M=>(f γ M).bind fun r=>match r.1 with
 |[.d (.int j)]=>if cG j=true/\j.toNat<=sizeLine then(if cell=true then some (.c r.2.length,r.2++[.lst (fF 0 j.toNat)])else some (.d (.list (TU 0 j.toNat)),r.2))else none
 |_=>none
theorem aBR{lo:Int}{n:Nat}:aL K H (TU lo n) (yC lo n):=by
 unfold TU yC;generalize List.range n=l
 induction l with
 |nil=>rfl
 |cons i l ih=>exact⟨_,_,rfl,rfl,ih⟩
theorem UE{lo:Int}{n:Nat}:cA K W (fF lo n) (yC lo n):=by
 unfold fF yC;generalize List.range n=l
 induction l with
 |nil=>exact .nil
 |cons i l ih=>exact .cons rfl ih
theorem YJ{cell:Bool}(b:SA K tA fa):SE K (XB tA) (tW cell fa):=by
 intro γ M x M' hh W H σ Q G R k;obtain⟨⟨ys,M1⟩,h1,hh⟩:=aH hh;refine b _ _ _ _ h1 W H σ _ G R fun vs W1 H1 e1 G1 r1=>?_;revert hh;dsimp only;split
 .rename_i j;intro hh;by_cases hs:cG j=true/\j.toNat<=sizeLine
  .rw[A3 hs]at hh;cases r1 with
   |cons r r'=>
    cases r';refine⟨j,by rw[show _=V.int j from r],(gC hs.1).1,(gC hs.1).2,hs.2,fun l hl=>?_⟩;cases cell with
    |true=>
     rw[A3 rfl]at hh;cases hh;exact k _ (W1.more l) _ (e1.trans (W1.ext_more l)) (G1.new hl (c:=.lst (fF 0 j.toNat)) (o:=.lst (yC 0 j.toNat)) UE) G1.newV
    |false=>
     rw[A7 A8]at hh;cases hh;obtain⟨e2,G2⟩:=G1.lay (o:=.lst (yC 0 j.toNat)) hl;exact k _ _ _ (e1.trans e2) G2 ⟨l,_,rfl,SqL.of aY,aBR⟩
  .rw[A7 hs]at hh;cases hh
 .intro hh;cases hh
theorem WV(cell:Bool){ι:Type}{X:ι->Cx}{a:Expr}{p p' pos pos':Pos}(hc:∀i,(X i).calm=true)(hm:∀i,(X i).mg "range"=none)(hml:∀i,(X i).mg "list"=none)(x:MA K X [a] fa)(hg:∀i,Gl (X i) "range":=by intro _;rfl)(hgl:∀i,Gl (X i) "list":=by intro _;rfl):
 ME K X (.Call (.Name "list" p) [.Call (.Name "range" p') [a] [] pos'] [] pos) (tW cell fa):=by
 obtain⟨t,x1,x2⟩:=x.ex;exact⟨_,fun i=>ZU (hc i) (hg i) (hm i) (hgl i) (hml i) (x1 i) (x.st.1 _),YJ x2⟩
end
noncomputable def Itz(K:Fg)(l1 l2:Addr):It:=
 ⟨fun i H=>∃xs ys x y,SqL K H l1 xs/\SqL K H l2 ys/\xs[i]?=some x/\ys[i]?=some y,
  fun i H v H'=>∃p x y,H p=none/\v=.ref p/\H'=upd H p (.tup [x,y])/\(∀xs,SqL K H l1 xs->xs[i]?=some x)/\∀ys,SqL K H l2 ys->ys[i]?=some y,
  fun i H=>∃xs ys,SqL K H l1 xs/\SqL K H l2 ys/\(xs[i]?=none\/ys[i]?=none)⟩
noncomputable def tnZ(z TI TO i1 i2 l1 l2:Addr)(i:Nat)(h:Heap):Prop:=IsZip h z TI TO .none/\IsPair h TI (.ref i1) (.ref i2)/\(∃a b,IsPair h TO a b)/\h.IsListIter i1 l1 i/\h.IsListIter i2 l2 i
structure LQ(z TI TO i1 i2:Addr):Prop where
 TIz:TI≠z
 TOz:TO≠z
 i1z:i1≠z
 i2z:i2≠z
 TITO:TI≠TO
 TIi1:TI≠i1
 TIi2:TI≠i2
 TOi1:TO≠i1
 TOi2:TO≠i2
 i12:i1≠i2
theorem RK(n:Nat):LQ (n+4) (n+2) (n+3) n (n+1):=by
 have key:∀a b:Nat,¬a=b->(a:Addr)≠b:=fun _ _ h=>h;exact⟨key _ _ (by omega),key _ _ (by omega),key _ _ (by omega),key _ _ (by omega),key _ _ (by omega),key _ _ (by omega),key _ _ (by omega),key _ _ (by omega),key _ _ (by omega),key _ _ (by omega)⟩
section
variable{P:Program}{w:World}{K:Fg}{elts:List Expr}{x1:Nat}{tpos:Pos}{z TI TO i1 i2 l1 l2:Addr}
theorem EA{h:Heap}{i:Nat}{xs ys:Array Value}(A5:LQ z TI TO i1 i2)(st:tnZ z TI TO i1 i2 l1 l2 i h)(h1:h.IsList l1 xs)(h2:h.IsList l2 ys):ZipApart z TI TO i1 i2 l1 l2:=by
 obtain⟨hz,hTI,⟨a,b,hTO⟩,⟨o1,e1,c1,d1⟩,⟨o2,e2,c2,d2⟩⟩:=st
 have nl:∀(l:Addr)(ws:Array Value),h.IsList l ws->∀(b:Addr)(o:Obj),h.get? b=some o->o.cls≠.type "list"->l≠b:=fun l ws hl b o e n q=>by
  subst q;obtain⟨o',e',c',_⟩:=hl;rw[e]at e';cases e';exact n c'
 have nz:(Value.type "zip")≠.type "list":=by intro q;injection q with q;exact absurd q (by decide)
 have nt:(Value.type "tuple")≠.type "list":=by intro q;injection q with q;exact absurd q (by decide)
 have ni:(Value.type "list_iterator")≠.type "list":=by intro q;injection q with q;exact absurd q (by decide)
 exact⟨A5.TIz,A5.TOz,A5.i1z,A5.i2z,A5.TITO,A5.TIi1,A5.TIi2,A5.TOi1,A5.TOi2,A5.i12,
  nl l1 xs h1 z _ hz nz,nl l1 xs h1 TO _ hTO nt,nl l1 xs h1 i1 _ e1 (by rw[c1];exact ni),nl l1 xs h1 i2 _ e2 (by rw[c2];exact ni),
  nl l2 ys h2 z _ hz nz,nl l2 ys h2 TO _ hTO nt,nl l2 ys h2 i1 _ e1 (by rw[c1];exact ni),nl l2 ys h2 i2 _ e2 (by rw[c2];exact ni)⟩
theorem WN(A5:LQ z TI TO i1 i2):Turn P w K (.Tuple elts x1 tpos) (Itz K l1 l2) [z,TI,TO,i1,i2] z (tnZ z TI TO i1 i2 l1 l2) where
 mem:=by simp
 obj:=fun i h st b hb=>by
  obtain⟨hz,hTI,⟨a,c,hTO⟩,⟨o1,e1,_,d1⟩,⟨o2,e2,_,d2⟩⟩:=st;simp only[List.mem_cons,List.not_mem_nil,or_false]at hb;rcases hb with rfl|rfl|rfl|rfl|rfl
  .exact⟨_,hz,fun v q=>by cases q⟩
  .exact⟨_,hTI,fun v q=>by cases q⟩
  .exact⟨_,hTO,fun v q=>by cases q⟩
  .exact⟨_,e1,fun v q=>by rw[d1]at q;cases q⟩
  .exact⟨_,e2,fun v q=>by rw[d2]at q;cases q⟩
 keep:=fun i h h' st k=>by
  obtain⟨hz,hTI,⟨a,c,hTO⟩,h1,h2⟩:=st;exact⟨k z (by simp) _ hz,k TI (by simp) _ hTI,⟨a,c,k TO (by simp) _ hTO⟩,h1.at fun o e=>k i1 (by simp) o e,h2.at fun o e=>k i2 (by simp) o e⟩
 item:=by
  intro X hP hw hK hc i pins s σ H E I hf st hg;subst hP hw hK;obtain⟨xs,ys,x,y,hq1,hq2,hx,hy⟩:=hg;obtain⟨its,rv,p,_⟩:=I.list hq1;obtain⟨jts,rw',p',_⟩:=I.list hq2;obtain⟨u,hu,ru⟩:=rv.get hx;obtain⟨v,hv,rv'⟩:=rw'.get hy;have D:=EA A5 st p.isList p'.isList;obtain⟨hz,hTI,⟨a,c,hTO⟩,h1,h2⟩:=id st;refine wpAny_pyNext_zip_item D hz hTI hTO h1 h2 p.isList p'.isList (x:=u) (y:=v) (by simpa using hu) (by simpa using hv) fun h' a1 a2 a3 a4 a5 a6 hk=>⟨_,rfl,?_⟩;refine wpAny_letOwnedTupleGo_zip a1 fun h2' hz2 sb=>?_
  have lt:∀b∈[z,TI,TO,i1,i2],s.heap.objs.size≠b:=fun b hb q=>by
   obtain⟨o1,e1,_⟩:=id h1;obtain⟨o2,e2,_⟩:=id h2;simp only[List.mem_cons,List.not_mem_nil,or_false]at hb
   have:∃o,s.heap.get? b=some o:=by
    rcases hb with rfl|rfl|rfl|rfl|rfl
    .exact⟨_,hz⟩
    .exact⟨_,hTI⟩
    .exact⟨_,hTO⟩
    .exact⟨_,e1⟩
    .exact⟨_,e2⟩
   obtain⟨o,e⟩:=this;rw[<- q]at e;exact absurd (B9 e) (F8 _)
  have kk:∀b o,b∉[z,TI,TO,i1,i2]->s.heap.get? b=some o->h2'.get? b=some o:=fun b o hb q=>by
   simp only[List.mem_cons,List.not_mem_nil,or_false,not_or]at hb;exact(sb.2 b hb.1).trans (hk b o hb.1 hb.2.2.1 hb.2.2.2.1 hb.2.2.2.2 q)
  have ht2:h2'.get? s.heap.objs.size=some { cls:=.type "tuple",data:=.seq #[u,v] }:=(sb.2 _ (lt z (by simp))).trans a5
  have I2:Inv X pins σ (upd H s.heap.objs.size (.tup [x,y])) { s with heap:=h2',toks:=s.toks }:=
   I.turnLay hf kk (A6 _) ⟨by show 2<=sizeLine;rw[E4];decide,[u,v],.cons ru (.cons rv' .nil),⟨_,ht2,rfl,_,rfl⟩⟩
  refine⟨.ref s.heap.objs.size,_,I2,rfl,⟨_,x,y,I.hok.fresh (A6 _),rfl,rfl,fun ws hw=>by rw[I.list_inj hw hq1];exact hx,fun ws hw=>by rw[I.list_inj hw hq2];exact hy⟩,⟨hz2,?_,⟨_,_,(sb.2 TO A5.TOz).trans a2⟩,a3.at fun o e=>(sb.2 i1 A5.i1z).trans e,a4.at fun o e=>(sb.2 i2 A5.i2z).trans e⟩,fun b hb=>?_⟩
  .exact(sb.2 TI A5.TIz).trans (hk TI _ A5.TIz A5.TITO A5.TIi1 A5.TIi2 hTI)
  .rw[aV (fun q=>lt b hb q.symm)];exact(hf b hb).1
 done:=by
  intro X hP hw hK hc i pins s σ H E I hf st hg;subst hP hw hK;obtain⟨xs,ys,hq1,hq2,hend⟩:=hg;obtain⟨its,rv,p,_⟩:=I.list hq1;obtain⟨jts,rw',p',_⟩:=I.list hq2;have D:=EA A5 st p.isList p'.isList;obtain⟨hz,hTI,⟨a,c,hTO⟩,h1,h2⟩:=id st;have l1':=rv.length;have l2':=rw'.length;refine wpAny_pyNext_zip_end (I.ok.hd hc) D hz hTI hTO h1 h2 p.isList p'.isList ?_ fun h' hk=>⟨rfl,I.turnF (t':=s.toks) hf fun b o hb q=>?_⟩
  .rcases hend with e|e
   .refine .inl ?_;have:=List.getElem?_eq_none_iff.mp e;exact Array.getElem?_eq_none (by rw[C5];omega)
   .refine .inr ?_;have:=List.getElem?_eq_none_iff.mp e;exact Array.getElem?_eq_none (by rw[C5];omega)
  .simp only[List.mem_cons,List.not_mem_nil,or_false,not_or]at hb;exact hk b o hb.1 hb.2.2.1 hb.2.2.2.1 hb.2.2.2.2 q
 self:=fun A i s Q E st h=>wpAny_pyIter_zip st.1 h
end
section
variable{X:Cx}{elts:List Expr}{x1:Nat}{tpos:Pos}
noncomputable def aHN(K:Fg)(ta:TA):TI:=fun σ H R=>ta σ H fun vs H1=>∃a b xs ys,vs=[.ref a,.ref b]/\SqL K H1 a xs/\SqL K H1 b ys/\R (Itz K a b) H1
theorem boot_zip:bootBuiltins "zip"=some (.type "zip"):=by decide +kernel
theorem aEE{a b:Expr}{ta:TA}{p pos:Pos}(hg:Gl X "zip")(hm:X.mg "zip"=none)(ha:PA X [a,b] ta)(hs:starEach [a,b] X.env=[(false,eval a X.env),(false,eval b X.env)])(hs2:starEach [b] X.env=[(false,eval b X.env)]):PI X (.Tuple elts x1 tpos) (.Call (.Name "zip" p) [a,b] [] pos) (aHN X.K ta):=by
 intro pins s σ H R I h;refine Call_ (mV I hg hm boot_zip (F9 (thn (ha pos pins s σ H _ I h) fun us s1 ⟨vs,H1,I1,r1,q1⟩=>?_) (by rw[hs,hs2]) (by rw[hs2];rfl)));obtain⟨l,l',xs,ys,e,hq1,hq2,q⟩:=q1;subst e;cases r1 with
 |cons r rr=>
  cases rr with
  |cons r' rr=>
   cases rr;cases (show _=Value.ref l from r);cases (show _=Value.ref l' from r');obtain⟨its,rv,p1,_⟩:=I1.list hq1;obtain⟨jts,rw',p2,_⟩:=I1.list hq2;refine call_zip_2 p1.isList p2.isList fun h' hz hTI hTO h1 h2 hsz hk=>?_;refine wpAny_pyIter_zip hz ?_
   have fp:∀b∈[s1.heap.objs.size+4,s1.heap.objs.size+2,s1.heap.objs.size+3,s1.heap.objs.size,s1.heap.objs.size+1],pY X pins H1 b:=fun b hb=>by
    have hb':s1.heap.objs.size<=b:=by
     simp only[List.mem_cons,List.not_mem_nil,or_false]at hb;omega
    exact I1.fpOk hb' (I1.hok.fresh hb')
   exact⟨_,_,_,_,H1,rfl,I1.kept (t':=s1.toks) hk,WN (z:=s1.heap.objs.size+4) (TI:=s1.heap.objs.size+2) (TO:=s1.heap.objs.size+3) (i1:=s1.heap.objs.size) (i2:=s1.heap.objs.size+1) (l1:=l) (l2:=l') (RK _),⟨hz,hTI,⟨_,_,hTO⟩,h1,h2⟩,fp,q⟩
end
noncomputable def sF:List PyData->List PyData->List CD
 |x::xs,y::ys=>.d (.tuple [x,y])::sF xs ys
 |_,_=>[]
noncomputable def aCF(f:AF):AF:=fun γ M=>(f γ M).bind fun r=>match r.1 with
 |[.d (.list xs),.d (.list ys)]=>some (sF xs ys,r.2)
 |_=>none
theorem JP:∀{xs ys:List PyData}{i:Nat}{x:CD},(sF xs ys)[i]?=some x->∃a b,xs[i]?=some a/\ys[i]?=some b/\x=.d (.tuple [a,b])
 |[],_,i,x=>fun h=>by unfold sF at h;cases i<;>cases h
 |_::_,[],i,x=>fun h=>by unfold sF at h;cases i<;>cases h
 |a::xs,b::ys,0,x=>fun h=>⟨a,b,rfl,rfl,by unfold sF at h;exact(D5 h).symm⟩
 |a::xs,b::ys,i+1,x=>fun h=>by
  obtain⟨c,d,h1,h2,h3⟩:=JP (xs:=xs) (ys:=ys) (i:=i) (by unfold sF at h;exact h);exact⟨c,d,h1,h2,h3⟩
theorem JJ:∀{xs ys:List PyData},xs[(sF xs ys).length]?=none\/ys[(sF xs ys).length]?=none
 |[],_=>.inl rfl
 |_::_,[]=>.inr rfl
 |a::xs,b::ys=>by
  show(a::xs)[(sF xs ys).length+1]?=none\/(b::ys)[(sF xs ys).length+1]?=none;exact JJ (xs:=xs) (ys:=ys)
theorem aGy{K:Fg}{tA:TA}{fa:AF}(b:SA K tA fa):SI K (aHN K tA) (aCF fa):=by
 intro γ M xs M' hh W H σ R G Rs k;obtain⟨⟨ys,M1⟩,h1,hh⟩:=aH hh;refine b _ _ _ _ h1 W H σ _ G Rs fun vs W1 H1 e1 G1 r1=>?_;revert hh;dsimp only;split
 .rename_i as bs;intro hh;cases hh;cases r1 with
  |cons r r'=>
   cases r' with
   |cons r2 r''=>
    cases r'';obtain⟨p,us,rfl,hs,hr⟩:=(show ∃a us,_=V.ref a/\SqL K W1.F a us/\aL K W1.F as us from r);obtain⟨p',us',rfl,hs',hr'⟩:=(show ∃a us,_=V.ref a/\SqL K W1.F a us/\aL K W1.F bs us from r2);refine⟨p,p',us,us',rfl,G1.fh.seq hs,G1.fh.seq hs',k _ W1 H1 e1 G1 fun W2 M2 H2 e2 G2=>?_⟩;have q1:SqL K H2 p us:=G2.fh.seq (e2.ff.seq hs);have q2:SqL K H2 p' us':=G2.fh.seq (e2.ff.seq hs');refine⟨fun i x hx=>?_,us,us',q1,q2,?_⟩
    .obtain⟨c,d,hc,hd,rfl⟩:=JP hx;obtain⟨u,hu,ru⟩:=Paired.get (gU hr) (show(as.map CD.d)[i]?=some (.d c)by rw[C8,hc];rfl);obtain⟨v,hv,rv⟩:=Paired.get (gU hr') (show(bs.map CD.d)[i]?=some (.d d)by rw[C8,hd];rfl);refine⟨⟨us,us',u,v,q1,q2,hu,hv⟩,fun y H3 hy=>?_⟩;obtain⟨p3,x',y',hn,rfl,rfl,hx',hy'⟩:=hy;have:=hx' us q1;rw[hu]at this;cases this;have:=hy' us' q2;rw[hv]at this;cases this;obtain⟨e3,G3⟩:=G2.lay (o:=.tup [u,v]) hn;refine⟨_,e3,G3,⟨p3,_,rfl,SqT.of aY,?_⟩⟩;exact⟨_,_,rfl,Rep.same e3.ff _ _ (show Rep K W2.F c u from ru.up e2),_,_,rfl,Rep.same e3.ff _ _ (show Rep K W2.F d v from rv.up e2),rfl⟩
    .rcases JJ (xs:=as) (ys:=bs)with e|e
     .exact .inl (by have:=List.getElem?_eq_none_iff.mp e;rw[hr.length]at this;exact List.getElem?_eq_none_iff.mpr this)
     .exact .inr (by have:=List.getElem?_eq_none_iff.mp e;rw[hr'.length]at this;exact List.getElem?_eq_none_iff.mpr this)
 .intro hh;cases hh
theorem aEm{ι:Type}{K:Fg}{X:ι->Cx}{a b:Expr}{fa:AF}{pos:Pos}{elts:List Expr}{x1:Nat}{tpos p:Pos}(hK:∀i,(X i).K=K)(hm:∀i,(X i).mg "zip"=none)(x:MA K X [a,b] fa)(hg:∀i,Gl (X i) "zip":=by intro _;rfl):MI K X (.Tuple elts x1 tpos) (.Call (.Name "zip" p) [a,b] [] pos) (aCF fa):=by
 obtain⟨t,x1',x2⟩:=x.ex;exact⟨_,fun i=>by have:=aEE (elts:=elts) (x1:=x1) (tpos:=tpos) (p:=p) (pos:=pos) (hg i) (hm i) (x1' i) (by rw[x.st.1,x.st.2.1];rfl) (by rw[x.st.2.1];rfl);rw[hK i]at this;exact this,aGy x2⟩
end L2
namespace PySem
open Sem (wp)
namespace F
end F
end PySem
namespace L2
open PySem PySem.Spec PyProof.Rows
theorem eE.le{ι:Type}{j k:Nat}{A:Around}{q:Bool}(r:eE k A q)(h:j<=k:=by decide):ι->eE j A q:=fun _=>r.mono h
section
variable{X:Cx}
noncomputable def PX:List V->Hp->VK->Prop:=fun xs H Q=>∃(a:Addr)(kvs:List (Key×V))(ns:List Int),xs=[.ref a]/\H a=some (.dK kvs)/\kvs.map (·.1)=ns.map .inl/\ns.length<64 /\
 ∀ns':List Int,ns'.Perm ns->ns'.Pairwise (·<=·)->∀l,H l=none->Q (.ref l) (upd H l (.lst (ns'.map .int)))
theorem DZ:∀{vs:List Value}{ns:List Int},IntsAre vs ns->bE (ns.map V.int) vs
 |_,_,.nil=>.nil
 |_,_,.cons _ t h=>.cons ⟨t,rfl⟩ (DZ h)
theorem PH:∀{ws:List Value}{ns:List Int},ws.length=ns.length->(∀(j:Nat) v i,ws[j]?=some v->ns[j]?=some i->∃t,v=Value.int i t)->IntsAre ws ns
 |[],[],_,_=>.nil
 |v::ws,n::ns,hl,h=>by
  obtain⟨t,rfl⟩:=h 0 v n rfl rfl;exact .cons n t (PH (Nat.succ.inj hl) fun j=>h (j+1))
theorem JS(hc:X.calm=true):fV X (.builtin "sorted") PX:=by
 intro pins s σ H xs us Q I r h;obtain⟨a,kvs,ns,rfl,ea,hk,h64,q⟩:=h;obtain⟨u,rfl,ru⟩:=vals1 r;cases ru;obtain⟨z,hs,vs,rk,dd⟩:=PV I.hok ea;obtain⟨ep,hat⟩:=dd.dictAt;obtain⟨m,F⟩:=I.fr;have N:News X.base X.env.locals s.heap (iV X.base s.heap X.env.locals):=yW
 have hl:vs.length=ns.length:=by
  have h1:kvs.length=vs.length:=Paired.len rk;have h2:=F6 List.length hk;rw[A2,A2]at h2;omega
 refine PySem.W.kdu_sorted (PySem.W.kdl_dict (knd:=dS X.prog X.w) (kvs:=vs) (ep:=ep) hs) (I.ok.hd hc) F N hat (by rw[hl,E4];omega) fun D h' tk ws F' N' hD hlen hw=>?_
 have hi:IntsAre ws ns:=PH (by rw[hlen,hl]) fun j v i e1 e2=>by
  obtain⟨k,x,e3,e4⟩:=hw j v e1;have e5:(vs.map (·.1))=ns.map Sum.inl:=by rw[<- hk];exact(KV.keys rk).symm
  have e6:(vs.map (·.1))[j]?=some k:=by rw[C8,e3];rfl
  rw[e5,C8,e2]at e6;cases e6;rw[NQ]at e4;rcases dG e4 with⟨i',t,e7,e8⟩|⟨_,_,e7,_⟩
  .cases e7;exact⟨t,e8⟩
  .cases e7
 refine PySem.W.ksk_lsort (its:=ws.toArray) (n:=0) (news':=fun o=>(D,o)::iV X.base s.heap X.env.locals) F' N' (fun o=>.head fun p hp=>C7 (hD p hp)) (by simp) hi h64 fun ws' ns' c h'' F'' N'' hi' _ pm pw _=>?_
 have hsz:s.heap.get? D=none:=by
  have hN:=N'' _ B0;cases e:s.heap.get? D with
  |none=>rfl
  |some o=>exact absurd (hD (D,o) (hG hN.2.1 hN.2.2 e)) (F8 _)
 have kp:∀b o,b≠X.env.locals->s.heap.get? b=some o->h''.get? b=some o:=fun b o hb e=>by
  cases z:X.base.get? b with
  |some v=>
   have:=I.bk b v z;rw[e]at this;cases this;exact F''.keep b _ z
  |none=>exact(N'' (b,o) (A9 _ (hG hb z e))).1
 have hz:(ns'.map V.int).length<=sizeLine:=by rw[A2,pm.length_eq,E4];omega
 have I2:Inv X pins σ (upd H D (.lst (ns'.map .int))) { s with heap:=h'' }:=I.laidL kp (fun m' hm'=>by rw[<- FV F.ns hm'];exact F''.ns) hsz ⟨hz,ws',c,DZ hi',(N'' _ B0).1⟩;exact⟨.ref D,_,I2.tok tk,rfl,q ns' pm pw D (I.hok.none hsz)⟩
end
theorem rS:∀{xs ys:List Int},xs.Pairwise (·<=·)->ys.Pairwise (·<=·)->xs.Perm ys->xs=ys
 |[],ys=>fun _ _ p=>(List.nil_perm.mp p).symm
 |x::xs,[]=>fun _ _ p=>by have:=p.length_eq;simp at this
 |x::xs,y::ys=>fun hx hy p=>by
  have h1:=List.pairwise_cons.mp hx;have h2:=List.pairwise_cons.mp hy
  have e:x=y:=by
   have a:y<=x:=by
    rcases List.mem_cons.mp (p.mem_iff.mp B0)with q|q
    .exact Int.le_of_eq q.symm
    .exact h2.1 x q
   have b:x<=y:=by
    rcases List.mem_cons.mp (p.mem_iff.mpr B0)with q|q
    .exact Int.le_of_eq q.symm
    .exact h1.1 y q
   omega
  subst e;rw[rS h1.2 h2.2 (List.perm_cons x |>.mp p)]
noncomputable def pK(ns:List Int):List Int:=ns.mergeSort fun a b=>decide (a<=b)
theorem tI(ns:List Int):(pK ns).Perm ns:=List.mergeSort_perm _ _
theorem oE(ns:List Int):(pK ns).Pairwise (·<=·):=by
 have:=List.pairwise_mergeSort (le:=fun a b:Int=>decide (a<=b)) (fun a b c h1 h2=>B1 (Y3 (D6 h1) (D6 h2))) (fun a b=>by simp;omega) ns;exact this.imp fun h=>D6 h
noncomputable def DX:List Key->Option (List Int)
 |[]=>some []
 |.inl i::r=>(DX r).map (i::·)
 |.inr _::_=>none
theorem IK:∀{ks:List Key}{ns:List Int},DX ks=some ns->ks=ns.map .inl
 |[],ns=>fun h=>by cases h;rfl
 |.inl i::r,ns=>fun h=>by
  obtain⟨m,h1,h2⟩:=Option.map_eq_some_iff.mp (show(DX r).map (i::·)=some ns from h);subst h2;rw[IK h1];rfl
 |.inr _::_,ns=>fun h=>by cases h
section
variable{K:Fg}
noncomputable def rR:FN:=fun xs M=>match xs with
 |[.c i]=>match M[i]? with
  |some (.dk kvs)=>(DX (kvs.map (·.1))).bind fun ns=>if ns.length<64 then some (.d (.list ((pK ns).map .int)),M)else none
  |_=>none
 |_=>none
theorem VW{H:Hp}:∀ns:List Int,aL K H (ns.map .int) (ns.map .int)
 |[]=>rfl
 |n::ns=>⟨_,_,rfl,rfl,VW ns⟩
theorem DW{W:Wd}:∀{kvs:List (Key×CD)}{us:List (Key×V)},PKV K W kvs us->us.map (·.1)=kvs.map (·.1)
 |_,_,.nil=>rfl
 |_,_,.cons h t=>by rw[B7,B7,DW t,h.1]
theorem SR:PN K PX rR:=by
 intro xs M z M' h W H vs Q G r k;unfold rR at h;split at h
 .rename_i i;split at h
  .rename_i kvs hi;obtain⟨ns,h1,h⟩:=aH h;by_cases hl:ns.length<64
   .rw[A3 hl]at h;cases h;obtain⟨us,ha,hp⟩:=G.dkAt hi;rcases r with _|⟨r1,_|_⟩;refine⟨W.α i,us,ns,by rw[r1.2],ha,by rw[DW hp];exact IK h1,hl,fun ns' pm pw l hln=>?_⟩;have e:ns'=pK ns:=rS pw (oE ns) (pm.trans (tI ns).symm);subst e;obtain⟨e2,G2⟩:=G.lay (o:=.lst ((pK ns).map .int)) hln;exact k _ _ _ e2 G2 ⟨l,_,rfl,SqL.of aY,VW _⟩
   .rw[A7 hl]at h;cases h
  .cases h
 .cases h
theorem WQ{ι:Type}{X:ι->Cx}(hc:∀i,(X i).calm=true):QN K X (.builtin "sorted") rR:=⟨_,fun i=>JS (hc i),SR⟩
end
end L2
namespace PySem
open PySem.Calls PyProof.Rows
end PySem
namespace L2
open PySem PySem.Spec PyProof.Rows
section
variable{K:Fg}
end
end L2
namespace HT
open PySem  PySem.Spec PyProof.Rows
theorem fm_congr{α β:Type}{f g:α->Option β}:∀{l:List α},(∀x∈l,f x=g x)->l.filterMap f=l.filterMap g
 |[]=>fun _=>rfl
 |x::l=>fun h=>by
  rw[S7,S7,h x B0,fm_congr fun y hy=>h y (A9 _ hy)]
theorem rev_pick{α:Type}(xs:List α):(List.range xs.length).filterMap (fun m=>xs[xs.length-1-m]?)=xs.reverse:=by
 have e:∀m∈List.range xs.length,xs[xs.length-1-m]?=xs.reverse[m]?:=fun m hm=>by
  rw[List.getElem?_reverse (List.mem_range.mp hm)]
 rw[fm_congr e];refine List.ext_getElem? fun i=>?_;have l:xs.length=xs.reverse.length:=List.length_reverse.symm;rw[l];generalize xs.reverse=ys;clear e l xs
 have:(List.range ys.length).filterMap (fun m=>ys[m]?)=ys:=by
  induction ys with
  |nil=>rfl
  |cons y ys ih=>
   rw[D0,List.range_succ_eq_map,S7];show y::_=_;rw[List.filterMap_map];congr 1
 rw[this]
section
variable{prog:Program}{w:World}{A:Around}{E:Value->Shared->Prop}{s:Shared}
theorem LS(n:Nat):Builtin.Slice.slicePlaces ((n:Int)-1) (-1) (-1)=n:=by
 unfold Builtin.Slice.slicePlaces;rw[A7 (by decide)];by_cases h:(n:Int)-1 > -1
 .rw[A3 h,show(-(-1:Int))=1 from rfl,Int.ediv_one];omega
 .rw[A7 h];omega
theorem wV{sl:Addr}{vs:Value}{n:Nat}{Q:Int×Int×Nat->Shared->Prop}(hs:s.heap.IsSliceOf sl .none .none vs)(ps:IsPart vs (some (-1)))
 (h:Q ((n:Int)-1,-1,n) s):wpAny (model prog w) A (Builtin.Slice.sliceApplied (.ref sl) (pure (n:Int))) Q E s:=by
 obtain⟨os,hos,hcs,hds⟩:=id hs;unfold Builtin.Slice.sliceApplied Builtin.Slice.sliceFields;refine A1 (A1 (J8 hos hds (x:=.none) rfl (A1 (J8 hos hds (x:=.none) rfl (A1 (J8 hos hds (x:=vs) rfl (B5 ?_)))))));refine A1 (tH ps ?_);show wpAny _ _ (if ((-1:Int)==0)=true then _ else _) _ _ s;rw[A7 (by decide)];refine A1 (slicePart_none (A1 (slicePart_none (A1 (B5 ?_)))));show wpAny _ _ (pure ((n:Int)-1,(-1:Int),Builtin.Slice.slicePlaces ((n:Int)-1) (-1) (-1))) _ _ s;rw[LS];exact B5 h
theorem WH(xs:Array Value):((List.range xs.size).filterMap fun(m:Nat)=>xs[((xs.size:Int)-1+(m:Int)*(-1)).toNat]?).toArray=xs.toList.reverse.toArray:=by
 have l:xs.size=xs.toList.length:=Array.length_toList.symm;rw[<- rev_pick xs.toList,l];congr 1;refine fm_congr fun m hm=>?_;have:=List.mem_range.mp hm;rw[show((xs.toList.length:Int)-1+(m:Int)*(-1)).toNat=xs.toList.length-1-m by omega,U6]
theorem getItem_tuple_rev{t sl:Addr}{items:Array Value}{vs:Value}{Q:Value->Shared->Prop}(ht:IsTup s.heap t items)(hs:s.heap.IsSliceOf sl .none .none vs)(ps:IsPart vs (some (-1)))
 (h:Q (.ref s.heap.objs.size) { s with heap:=s.heap.push { cls:=.type "tuple",data:=.seq items.toList.reverse.toArray } })
 (hsz:items.size<=sizeLine):wpAny (model prog w) A (getItem (.ref t) (.ref sl)) Q E s:=by
 have htake:sizeOk (.seq items.toList.reverse.toArray):=by
  show items.toList.reverse.toArray.size<=sizeLine;rw[C5,S9,A0c];exact hsz
 obtain⟨os,hos,hcs,hds⟩:=id hs;have hTs:s.TypeIs (.ref sl) "slice":=⟨os,hos,hcs⟩;unfold getItem
 try with_reducible refine J1 ?_
 first|refine A1 (B5 ?_)|skip
 refine A1 (wpAny_sequenceKey ht.typeIs (by decide) ?_)
 refine A1 (U2 (name:=Str.ofString "__getitem__") ht.typeIs J2
  (S5 J2 ht.typeIs entry_tuple_getitem ?_ (args_tuple_getitem _ _)))
 show wpAny _ _ (Builtin.Tuple.tupleItemsOf (.ref t) >>= _) _ _ s;refine A1 (tupleItemsOf_ ht ?_);refine A1 (wpAny_typeOf hTs ?_);rw[A3 (by decide)];refine A1 (wV hs ps ?_);show wpAny _ _ (if (((items.size:Int)-1)==0&&(-1:Int)==1&&items.size==items.size)=true then _ else _) _ _ s;rw[A7 (by rw[show((-1:Int)==1)=false from rfl,F7,J9];exact A8),WH]
 first
  |exact A1 (m:=Builtin.Tuple.tupleExact _) (E2 (B5 ⟨_,rfl,B5 h⟩) htake)
  |exact A1 (m:=Builtin.Tuple.tupleExact _) (E2 (A1 (B5 (B5 ⟨_,rfl,B5 h⟩))) htake)
  |exact A1 (A1 (m:=Builtin.Tuple.tupleExact _) (E2 (B5 (B5 ⟨_,rfl,B5 h⟩)) htake))
  |exact A1 (A1 (m:=Builtin.Tuple.tupleExact _) (E2 (B5 ⟨_,rfl,B5 h⟩) htake))
end
end HT
namespace L2
variable{K:Fg}
open PySem PySem.Spec PyProof.Rows
theorem bE.rev:∀{xs:List V}{us:List Value},bE xs us->bE xs.reverse us.reverse
 |_,_,.nil=>.nil
 |_,_,.cons r t=>by
  rw[O0,O0];exact(bE.rev t).append (.cons r .nil)
noncomputable def aEu(K:Fg):V->Hp->VK->Prop:=fun x H Q=>(∃a xs,x=.ref a/\SqL K H a xs/\∀p,H p=none->Q (.ref p) (upd H p (.lst xs.reverse)))\/∃a xs,x=.ref a/\SqT K H a xs/\∀p,H p=none->Q (.ref p) (upd H p (.tup xs.reverse))
theorem CA(its:List Value):slicePick its.toArray none none (some (-1))=its.reverse.toArray:=by
 have b:sliceBounds none none (some (-1)) its.toArray.size=((its.length:Int)-1,-1,-1):=by
  unfold sliceBounds;rfl
 unfold slicePick;rw[b];congr 1;rw[<- HT.rev_pick its];unfold sliceRange;dsimp only;rw[A7 (by decide)]
 have c:(if (its.length:Int)-1 > -1 then((its.length:Int)-1 - -1 - -1-1) / -(-1)else 0).toNat=its.length:=by
  by_cases h:(its.length:Int)-1 > -1
  .rw[A3 h,show(-(-1:Int))=1 from rfl,Int.ediv_one];omega
  .rw[A7 h];omega
 rw[c,List.filterMap_map];refine HT.fm_congr fun m hm=>?_;have:=List.mem_range.mp hm;show its.toArray[((its.length:Int)-1+-1*(m:Int)).toNat]?=_;rw[show((its.length:Int)-1+-1*(m:Int)).toNat=its.length-1-m by omega,List.getElem?_toArray]
section
variable{X:Cx}{e st:Expr}{te:TE}{th:TO}{pos p2:Pos}
theorem aDc{pins:List (Addr×Obj)}{s:Shared}{σ:St}{H:Hp}{x:V}{v vs:Value}{sl:Addr}{Q:VK}(I:Inv X pins σ H s)(rx:RelV x v)(hs:s.heap.IsSliceOf sl .none .none vs)(ps:IsPart vs (some (-1)))(h:aEu X.K x H Q):
 ∃T id,typeLookup (.type T) "__getitem__"=pure (some (.builtin id))/\s.TypeIs v T/\wpAny (model X.prog X.w) X.A (getItem v (.ref sl)) (EP X pins σ Q) X.xe s:=by
 rcases h with⟨a,xs,rfl,hx,q⟩|⟨a,xs,rfl,hx,q⟩
 .cases rx;obtain⟨its,r,ht,hz⟩:=I.list hx;have hlen:=r.length;refine⟨"list",_,slot_list_getitem.lookup,ht.isList.typeIs,?_⟩;refine wpAny_getItem_list_slice ht.isList hs .none .none ps (by decide) ?_ (by rw[C5]<;>omega);rw[CA];refine⟨.ref s.heap.objs.size,_,I.laid (t':=s.toks) (o:=.lst xs.reverse) (fun b ob q=>A4 _ q) (A6 _) ?_,rfl,q _ (I.hok.fresh (A6 _))⟩;exact⟨by rw[S9];exact hz,_,0,r.rev,D1 _ rfl⟩
 .cases rx;obtain⟨its,r,ht,hz⟩:=I.tuple hx;have hlen:its.toArray.size=xs.length:=by rw[C5];exact r.length.symm
  refine⟨"tuple",_,PyProof.Rows.slot_tuple_getitem.lookup,ht.typeIs,?_⟩;refine HT.getItem_tuple_rev ht hs ps ?_ (by rw[hlen];exact hz);refine⟨.ref s.heap.objs.size,_,I.laid (t':=s.toks) (o:=.tup xs.reverse) (fun b ob q=>A4 _ q) (A6 _) ?_,rfl,q _ (I.hok.fresh (A6 _))⟩;exact⟨by rw[S9];exact hz,_,r.rev,IsTup.new _ _⟩
noncomputable def aHt(K:Fg)(te:TE)(th:TO):TE:=fun σ H Q=>te σ H fun x H1=>th σ H1 fun u H2=>u=some (-1)/\aEu K x H2 Q
theorem aES(he:PE X e te)(hu:PO X (some st) th):PE X (.Subscript e (.Slice none none (some st) p2) pos) (aHt X.K te th):=by
 intro pins s σ H Q I h;refine Subscript_ (thn (he pins s σ H _ I h) fun v s1 ⟨x,H1,I1,r1,q1⟩=>?_);refine wpAny_Slice ?_;rw[evalPart_none];refine B5 (B5 ?_);refine thn (hu pins s1 σ H1 _ I1 q1) fun vu s3 ⟨u,H3,I3,pu,q3⟩=>?_;obtain⟨rfl,q⟩:=q3;have I4:Inv X pins σ H3 { s3 with heap:=s3.heap.push { cls:=.type "slice",data:=.fields #[.none,.none,vu] } }:=I3.kept (t':=s3.toks) fun b ob q=>A4 _ q;obtain⟨T,id,hT,ht,hg⟩:=aDc I4 r1 (Heap.IsSliceOf.new ..) pu q;show wpAny (model X.prog X.w) X.A (subscriptTail e (.Slice none none (some st) p2) v (.ref s3.heap.objs.size)) (EP X pins σ Q) X.xe { s3 with heap:=s3.heap.push { cls:=.type "slice",data:=.fields #[.none,.none,vu] } };exact tail_any (ops:=[v,.ref s3.heap.objs.size]) ht hT hg (by with_unfolding_all rfl)
end
noncomputable def YB:CD->Sto->Option (CD×Sto)
 |.d (.list ds),M=>some (.d (.list ds.reverse),M)
 |.d (.tuple ds),M=>some (.d (.tuple ds.reverse),M)
 |_,_=>none
noncomputable def aBu(f:EF)(u:OF):EF:=fun γ M=>(f γ M).bind fun r=>(u γ r.2).bind fun q=>if q.1=some (-1)then YB r.1 q.2 else none
section
variable{K:Fg}
theorem aL.rev{H:Hp}:∀{ds:List PyData}{vs:List V},aL K H ds vs->aL K H ds.reverse vs.reverse
 |[],vs=>fun h=>by rw[show vs=[]from h];rfl
 |d::ds,vs=>fun h=>by
  obtain⟨v,r,rfl,h2,h3⟩:=h;rw[O0,O0];exact aL.app (aL.rev h3) ⟨v,[],rfl,h2,rfl⟩
theorem RL{x:CD}{M:Sto}{z:CD}{M':Sto}(h:YB x M=some (z,M')){W:Wd}{H:Hp}{v:V}{Q:VK}(G:Good K W M H)(rx:cH K W x v)(k:∀w W' H',W.Ext W'->Good K W' M' H'->cH K W' z w->Q w H'):aEu K v H Q:=by
 unfold YB at h;split at h
 .rename_i ds;cases h;obtain⟨p,us,rfl,hq,hr⟩:=(show ∃a us,_=V.ref a/\SqL K W.F a us/\aL K W.F ds us from rx);refine .inl ⟨p,us,rfl,G.fh.seq hq,fun l hl=>?_⟩;obtain⟨e2,G2⟩:=G.lay (o:=.lst us.reverse) hl;exact k _ _ _ e2 G2 ⟨l,_,rfl,SqL.of aY,aL.same e2.ff _ _ hr.rev⟩
 .rename_i ds;cases h;obtain⟨p,us,rfl,hq,hr⟩:=(show ∃a us,_=V.ref a/\SqT K W.F a us/\aL K W.F ds us from rx);refine .inr ⟨p,us,rfl,G.fh.seqT hq,fun l hl=>?_⟩;obtain⟨e2,G2⟩:=G.lay (o:=.tup us.reverse) hl;exact k _ _ _ e2 G2 ⟨l,_,rfl,SqT.of aY,aL.same e2.ff _ _ hr.rev⟩
 .cases h
theorem aFi{ta:TE}{f:EF}{th:TO}{u:OF}(a:SE K ta f)(c:SO K th u):SE K (aHt K ta th) (aBu f u):=by
 intro γ M x M' hh W H σ Q G R k;obtain⟨⟨y,M1⟩,h1,hh⟩:=aH hh;obtain⟨⟨q,M3⟩,h3,hh⟩:=aH hh;refine a _ _ _ _ h1 W H σ _ G R fun v W1 H1 e1 G1 r1=>?_;refine c _ _ _ _ h3 W1 H1 σ _ G1 (R.up e1) fun W3 H3 e3 G3=>?_;have hh:(if q=some (-1)then YB y M3 else none)=some (x,M'):=hh;by_cases hq:q=some (-1)
 .rw[A3 hq]at hh;exact⟨hq,RL hh G3 (r1.up e3) fun w W4 H4 e4 G4 r4=>k w W4 H4 ((e1.trans e3).trans e4) G4 r4⟩
 .rw[A7 hq]at hh;cases hh
end
section
variable{ι:Type}{K:Fg}{X:ι->Cx}{a st:Expr}{f:EF}{u:OF}{pos p2:Pos}
theorem aEp(hK:∀i,(X i).K=K)(x:ME K X a f)(z:MO K X (some st) u):ME K X (.Subscript a (.Slice none none (some st) p2) pos) (aBu f u):=by
 obtain⟨t,x1,x2⟩:=x.ex;obtain⟨t',z1,z2⟩:=z.ex;exact⟨_,fun i=>by have:=aES (p2:=p2) (pos:=pos) (x1 i) (z1 i);rw[hK i]at this;exact this,aFi x2 z2⟩
end
section
open PySem.SeqAt
open PySem.AutoSeq1 (wpAny_loadPart')
open PySem.MeetsSeq PySem.MeetsSeq2 PySem.MeetsSeq3
theorem aCQ{prog:Program}{w:World}{A:Around}{E:Value->Shared->Prop}{s:Shared}{p q:Value}{x y:PyData}{as bs:List Addr}{c:Bool}(hu:A.units<cLine)(r1:Reads s.heap p x as)(r2:Reads s.heap q y bs)(h:fL x y=some c):
 ∀Q:Value->Shared->Prop,Q (.bool c) s->wpAny (model prog w) A (richCompare .Lt p q) Q E s:=by
 intro Q k;unfold fL at h;split at h
 .rename_i a b;cases r1;cases r2;cases h;exact HT.rcLt_int _ _ _ _ _ _ _ _ _ _ k
 .rename_i xs ys;obtain⟨ns,h1,h⟩:=Option.bind_eq_some_iff.mp h;obtain⟨ms,h2,h⟩:=Option.bind_eq_some_iff.mp h;cases h;cases r1 with
  |tuple g1 g2 g3 g4=>
   cases r2 with
   |tuple k1 k2 k3 k4=>exact HT.lt_tupInts ⟨_,g1,g2,_,g3⟩ ⟨_,k1,k2,_,k3⟩ (nR g4 h1) (nR k4 h2) hu k
 .cases h
theorem CU(l b:Addr)(us us2:Array Value)(n n2:Nat)(dd dd2:Option Addr)(sl sl2:Array (Option Value))(xs ys:List PyData)(c:Bool):
 Meets (Builtin.«tuple.__lt__» ⟨[.ref l,.ref b],[]⟩)
  (fun A R s=>(A.in1.units+64<cLine/\(∃as,ReadsAll s.heap us.toList xs as)/\(∃bs,ReadsAll s.heap us2.toList ys bs)/\xs.all SeqAt.shaped=true/\ys.all SeqAt.shaped=true/\cY xs ys=some c) /\
   s.heap.get? l=some { cls:=.type "tuple",dict:=dd,data:=.seq us n,slots:=sl }/\s.heap.get? b=some { cls:=.type "tuple",dict:=dd2,data:=.seq us2 n2,slots:=sl2 } /\
   R (.ok (.ret (.bool c))) s):=
 .of_wp fun prog w A R s h=>by
  obtain⟨hp,g,d,tk,os⟩:=s;obtain⟨⟨hu,⟨as,hi⟩,⟨bs,hj⟩,s1,s2,hc⟩,hl,hb,h⟩:=h;have f2:=AutoSeq1.sub_tuple_tuple;have z1:us.size=xs.length:=by rw[<- ReadsAll.len hi];simp
  have z2:us2.size=ys.length:=by rw[<- ReadsAll.len hj];simp
  wp_walk using S8 hl,S8 hb,wpAny_forIn_list _ (fun rest b s'=>b.1=none/\s'=⟨hp,g,d,tk,os⟩/\∃(vs ws:List Value)(xs' ys':List PyData),rest=vs.zip ws /\
   (∃as,ReadsAll hp vs xs' as)/\(∃bs,ReadsAll hp ws ys' bs)/\xs'.all SeqAt.shaped=true/\ys'.all SeqAt.shaped=true/\xs'.length+us2.size=ys'.length+us.size/\cY xs' ys'=some c) _
  case turn=>
   rintro⟨y,x⟩ rest b s' ⟨hb',rfl,vs,ws,xs',ys',hz,⟨as',ha⟩,⟨bs',hb2⟩,t1,t2,hlen,hR⟩;cases ha with
   |nil=>rw[List.zip_nil_left]at hz;cases hz
   |cons a1 a2=>
    cases hb2 with
    |nil=>rw[List.zip_nil_right]at hz;cases hz
    |cons b1 b2=>
     rename_i dx dxs _ dy dys _;rw[Y9]at hz;injection hz with hyx hrest
     injection hyx with hy hx
     subst hy hx;rw[U5,B3]at t1 t2;simp only[List.length_cons]at hlen;refine A1 (SeqAt.eqAt_reads _ _ A.in1 ⟨hp,g,d,tk,os⟩ _ _ _ _ a1 b1 (O5 t1.1) (O5 t2.1) (SeqAt.room_of_shaped t1.1 hu) prog w _ _ ?_);have hR:(if PyData.eqv _ _=true then cY _ _ else fL _ _)=some c:=hR;revert hR;split
     .rename_i e;intro hR;rw[e]
      wp_walk
      exact⟨rfl,rfl,_,_,_,_,hrest,⟨_,a2⟩,⟨_,b2⟩,t1.2,t2.2,by omega,hR⟩
     .rename_i e;intro hR;rw[Bool.eq_false_iff.mpr e];have hri:=fun E=>aCQ (prog:=prog) (w:=w) (A:=A.in1) (E:=E) (s:=⟨hp,g,d,tk,os⟩) (Nat.lt_of_le_of_lt (J6 _ 64) hu) a1 b1 hR
      wp_walk using hri
      exact⟨_,rfl,by simpa using h⟩
  case fin=>
   rintro⟨b1,b2⟩ s' ⟨hb',rfl,vs,ws,xs',ys',hz,⟨as',ha⟩,⟨bs',hb2⟩,t1,t2,hlen,hR⟩;simp only at hb';subst hb'
   have hv:c=decide (us.size<us2.size):=by
    cases ha with
    |nil=>
     have hR:some (decide (0<ys'.length))=some c:=hR;cases hR;simp only[List.length_nil]at hlen;exact decide_eq_decide.mpr (by omega)
    |cons a1 a2=>
     cases hb2 with
     |nil=>
      cases hR;simp only[List.length_nil,List.length_cons]at hlen;exact(C1 (by omega)).symm
     |cons b1 b2=>
      rw[Y9]at hz;cases hz
   rw[hv]at h
   wp_walk
   exact⟨_,rfl,by simpa[Builtin.Tuple.tupleCompareSizes]using h⟩
  case h=>
   exact⟨rfl,rfl,us.toList,us2.toList,xs,ys,rfl,⟨_,hi⟩,⟨_,hj⟩,s1,s2,by omega,hc⟩
end
section
variable{prog:Program}{w:World}{A:Around}{E:Value->Shared->Prop}{s:Shared}
theorem aBh{p q:Value}{xs ys:List PyData}{as bs:List Addr}{c:Bool}{Q:Value->Shared->Prop}(r1:Reads s.heap p (.tuple xs) as)(r2:Reads s.heap q (.tuple ys) bs)(s1:xs.all SeqAt.shaped=true)(s2:ys.all SeqAt.shaped=true)(hc:cY xs ys=some c)
 (hu:A.in1.units+64<cLine) (h:Q (.bool c) s):wpAny (model prog w) A (compareOp .Lt p q) Q E s:=by
 cases r1 with
 |tuple a1 a2 a3 a4=>
  cases r2 with
  |tuple b1 b2 b3 b4=>
   rename_i o1 _ _ _ o2 _ _;obtain⟨cls,dd,data,sl⟩:=o1;obtain⟨cls2,dd2,data2,sl2⟩:=o2;simp only at a2 a3 b2 b3;subst a2 a3 b2 b3
   exact richCompare_meets_room (op:=.Lt) ⟨_,a1,rfl⟩ ⟨_,b1,rfl⟩ PySem.F.slot_tuple_lt PySem.F.entry_tuple_lt (PySem.F.args_tuple_lt_2 _ _) (CU _ _ _ _ _ _ dd dd2 sl sl2 xs ys c)
    ⟨⟨hu,⟨_,a4⟩,⟨_,b4⟩,s1,s2,hc⟩,a1,b1,show Value.bool c≠Value.notImplemented/\Q (.bool c) s from⟨(fun x=>nomatch x),h⟩⟩ (Nat.lt_of_le_of_lt (Z3 (C3 (J5 _) (J6 _ 64))) hu)
end
section
variable{X:Cx}
noncomputable def aEC(K:Fg):R2:=fun x y H Q=>∃xs ys c,Rep K H (.tuple xs) x/\Rep K H (.tuple ys) y/\xs.all SeqAt.shaped=true/\ys.all SeqAt.shaped=true/\cY xs ys=some c/\Q (.bl c) H
theorem aEU(hu:X.A.in1.units+64<cLine):OpR X (compareOp .Lt) (aEC X.K):=by
 intro pins s σ H x y v u Q I rx ry h;obtain⟨xs,ys,c,hx,hy,s1,s2,hc,q⟩:=h;obtain⟨as,ha⟩:=Rep.reads I _ x v hx rx;obtain⟨bs,hb⟩:=Rep.reads I _ y u hy ry;exact aBh ha hb s1 s2 hc hu ⟨.bl _,H,I,rfl,q⟩
end
noncomputable def ltD:F2:=fun x y M=>match x,y with
 |.d (.tuple xs),.d (.tuple ys)=>if (xs.all SeqAt.shaped&&ys.all SeqAt.shaped)=true then(cY xs ys).bind fun c=>some (.d (.bool c),M)else none
 |_,_=>none
noncomputable def ltX:F2:=KH ltI ltD
section
variable{K:Fg}
theorem aGS:P2 K (aEC K) ltD:=by
 intro x y M z M' h W H v u Q G rx ry k;unfold ltD at h;split at h
 .rename_i xs ys;by_cases hs:(xs.all SeqAt.shaped&&ys.all SeqAt.shaped)=true
  .rw[A3 hs]at h;obtain⟨c,h1,h⟩:=aH h;cases h;rw[B3]at hs;exact⟨xs,ys,c,Rep.same G.fh _ _ rx,Rep.same G.fh _ _ ry,hs.1,hs.2,h1,k _ W H (.refl _) G rfl⟩
  .rw[A7 hs]at h;cases h
 .cases h
end
section
variable{ι:Type}{K:Fg}{X:ι->Cx}
theorem aCq{X:Cx}(e:X.K=K)(hu:X.A.in1.units+64<cLine):OpR X (compareOp .Lt) (aEC K):=by subst e;exact aEU hu
theorem aDK(hK:∀i,(X i).K=K)(hu:∀i,(X i).A.in1.units+64<cLine):Q2 K X (compareOp .Lt) ltX:=⟨_,fun i=>op_lt.or (aCq (hK i) (hu i)),P2.or aDQ aGS⟩
end
noncomputable def ND:List (CD×CD)->Option (List (Key×CD))
 |[]=>some []
 |(k,x)::r=>(keyOf k).bind fun k'=>(ND r).bind fun q=>some ((k',x)::q)
noncomputable def pS(fs:List (EF×EF)):EF:=fun γ M=>(AU fs γ (M++[.dk []])).bind fun r=>match r.2[M.length]? with
 |some (.dk [])=>(ND r.1).bind fun kvs=>if kvs.length<=15/\(kvs.map (·.1)).Nodup then some (.c M.length,r.2.set M.length (.dk kvs))else none
 |_=>none
section
variable{K:Fg}
theorem BR{W:Wd}:∀{xs:List (CD×CD)}{kvs:List (Key×CD)}{vs:List (V×V)},ND xs=some kvs->Paired (fun a b=>cH K W a.1 b.1/\cH K W a.2 b.2) xs vs->
 ∃us:List (Key×V),vs=us.map (fun p=>(kV p.1,p.2))/\us.map (·.1)=kvs.map (·.1)/\Paired (fun p q=>p.1=q.1/\cH K W p.2 q.2) kvs us
 |[],kvs,vs=>fun h r=>by
  cases h;cases r;exact⟨[],rfl,rfl,.nil⟩
 |(k,x)::xs,kvs,vs=>fun h r=>by
  obtain⟨k',h1,h⟩:=aH (show(keyOf k).bind _=_ from h);obtain⟨q,h2,h⟩:=aH h;cases h;cases r with
  |@cons _ b _ vs' r1 r2=>
   obtain⟨us,e1,e2,e3⟩:=BR h2 r2;refine⟨(k',b.2)::us,?_,?_,.cons ⟨rfl,r1.2⟩ e3⟩
   .rw[B7,<- e1,<- DG h1 r1.1]
   .rw[B7,B7,e2]
theorem VN{ts:List (TE×TE)}{fs:List (EF×EF)}(sp:SPs K ts fs):SE K (aDh ts) (pS fs):=by
 intro γ M x M' hh W H σ Q G R k;obtain⟨⟨xs,M1⟩,h1,hh⟩:=aH hh;intro p hp;have G1:=G.new hp (c:=.dk []) (o:=.dK []) (show Paired _ [] []from .nil);have e1:=W.ext_more p;refine aAC sp h1 G1 (R.up e1) fun vs W2 H2 e2 G2 r2=>?_;dsimp only at hh;split at hh
 .rename_i hM;obtain⟨kvs,h2,hh⟩:=aH hh;by_cases hc:kvs.length<=15/\(kvs.map (·.1)).Nodup
  .rw[A3 hc]at hh;cases hh
   have al:W2.α M.length=p:=by
    rw[e2.al M.length (by show M.length<W.n+1;rw[G.n];exact J5 _)];show(if M.length=W.n then p else _)=p;rw[A3 G.n.symm]
   obtain⟨_,o,g2,g3⟩:=G2.cs _ _ hM (by intro z;cases z);rw[al]at g2
   have ho:o=.dK []:=by
    cases o with
    |dK us=>cases g3;rfl
    |_=>exact False.elim g3
   subst ho;obtain⟨us,z1,z2,z3⟩:=BR h2 r2;have nd:(us.map (·.1)).Nodup:=by rw[z2];exact hc.2
   have hl:us.length<=15:=by
    have:=F6 List.length z2;rw[A2,A2]at this;omega
   refine⟨g2,us,z1,hl,?_⟩;rw[EU us [] (by simpa using nd),List.nil_append];have G3:=G2.set (o':=.dK us) (c':=.dk kvs) hM (by intro z;cases z) z3;rw[al]at G3;refine k _ _ _ (e1.trans e2) G3 ⟨?_,by rw[al]⟩;exact C3 (by show M.length<W.n+1;rw[G.n];exact J5 _) e2.ln
  .rw[A7 hc]at hh;cases hh
 .cases hh
end
section
variable{ι:Type}{K:Fg}{X:ι->Cx}
theorem JB{pos:Pos}{ks:List (Option Expr)}{vs:List Expr}{fs:List (EF×EF)}(x:MD K X pos ks vs fs)(hall:ks.all (·.isSome)=true:=by rfl)(hl:ks.length=vs.length:=by rfl)(h0:ks≠[]:=by simp)(h15:ks.length<=15:=by simp):ME K X (.Dict ks vs pos) (pS fs):=by
 obtain⟨t,x1,x2⟩:=x.ex;exact⟨_,fun i=>aCo (x1 i) hall hl h0 h15,VN x2⟩
end
noncomputable def NK(K:Fg):List V->Hp->VK->Prop:=fun xs H Q=>∃(p:Addr)(vs:List V),xs=[.ref p]/\SqT K H p vs/\WA K vs H Q
theorem HU{X:Cx}(hu:X.A.in1.in1.units+64<cLine):fV X (.builtin "sorted") (NK X.K):=by
 intro pins s σ H xs us Q I r h;obtain⟨p,vs,rfl,hp,q⟩:=h;obtain⟨u,rfl,ru⟩:=vals1 r;cases ru;obtain⟨its,rv,⟨o,ho,hc,n,hd⟩,hz⟩:=I.tuple hp;have hl:=rv.length;refine Calls.call_function_entry kind_sorted plain_sorted entry_sorted (args_sorted1 _) ?_;unfold Builtin.«sorted»;refine A1 (m:=checkCount "sorted" 1 1 _) (B5 ?_);refine A1 (wpAny_collect_seq _ (.inr rfl) ho hc hd (fun h' hk=>?_) (by simp;omega));exact aFf (A:=X.A.in1) hu (I.kept (t':=s.toks) hk) (its:=its.toArray.toList) rv q
theorem aFp{X:Cx}(h:X.K=K)(hu:X.A.in1.in1.units+64<cLine):fV X (.builtin "sorted") (NK K):=by subst h;exact HU hu
noncomputable def zG:FN:=fun xs M=>match xs with
 |[.d (.tuple ds)]=>(rowsOf ds).bind fun rows=>(pU rows).bind fun r=>some (.d (.list r),M)
 |_=>none
theorem VT:PN K (NK K) zG:=by
 intro xs M z M' h W H vs Q G r k;unfold zG at h;split at h
 .rename_i ds;obtain⟨rows,h1,h⟩:=aH h;obtain⟨y,h3,h⟩:=aH h;cases h;rcases r with _|⟨r1,_|_⟩;obtain⟨p,us,rfl,hq,hr⟩:=(show ∃a us,_=V.ref a/\SqT K W.F a us/\aL K W.F ds us from r1);rw[rZ h1]at hr;refine⟨p,us,rfl,G.fh.seqT hq,?_⟩;unfold pU at h3;by_cases hs:sortable rows=true
  .rw[A3 hs]at h3;cases h3;obtain⟨s1,s2,s3,s4,s5⟩:=jB hs;refine .inl ⟨rows,aL.same G.fh _ _ hr,s1,s2,s3,s4,s5,fun l hl=>?_⟩;obtain⟨e4,G4⟩:=G.lay (o:=.lst ((eG (fM rows) rows.length).map fun i=>us.getD i .non)) hl;exact k _ _ _ e4 G4 ⟨l,_,rfl,SqL.of aY,aL.same e4.ff _ _ (vA hr _ (XM (by omega)))⟩
  .rw[A7 hs]at h3;by_cases hl2:rows.length<2
   .rw[A3 hl2]at h3;cases h3;refine .inr ⟨by rw[<- hr.length,A2];exact hl2,fun l hl=>?_⟩;obtain⟨e4,G4⟩:=G.lay (o:=.lst us) hl;exact k _ _ _ e4 G4 ⟨l,_,rfl,SqL.of aY,aL.same e4.ff _ _ hr⟩
   .rw[A7 hl2]at h3;cases h3
 .cases h
theorem aCw{ι:Type}{X:ι->Cx}(hK:∀i,(X i).K=K)(hu:∀i,(X i).A.in1.in1.units+64<cLine):QN K X (.builtin "sorted") zG:=⟨_,fun i=>aFp (hK i) (hu i),VT⟩
end L2
section
noncomputable section
namespace Q23
open PySem PySem.Spec PyProof.Rows L2
noncomputable def top(i:Nat):Stmt:=PySem.Challenge.pw_cutstree_k23_tree_ways.main.body.getD i (.Pass ⟨0,0,0,0⟩)
noncomputable def dU:List (Str×Bool):=[("NoPlace",true),("NoTree",true)]
noncomputable def fH:List (Str×Bool):=[("NoPlace",true),("NoTree",true)]
noncomputable def kP:List (Str×Bool):=[("NoPlace",true),("NoTree",false)]
theorem ar1{α:Type}{P:List α->Prop}{us:List α}(hl:us.length=1)(h:∀a0,P [a0]):P us:=by
 rcases us with _|⟨a0,_|⟨c,r⟩⟩<;>first|exact h _|cases hl
theorem ar2{α:Type}{P:List α->Prop}{us:List α}(hl:us.length=2)(h:∀a0 a1,P [a0,a1]):P us:=by
 rcases us with _|⟨a0,_|⟨a1,_|⟨c,r⟩⟩⟩<;>first|exact h _ _|cases hl
theorem ar3{α:Type}{P:List α->Prop}{us:List α}(hl:us.length=3)(h:∀a0 a1 a2,P [a0,a1,a2]):P us:=by
 rcases us with _|⟨a0,_|⟨a1,_|⟨a2,_|⟨c,r⟩⟩⟩⟩<;>first|exact h _ _ _|cases hl
set_option hygiene false
local macro_rules | `(tactic| sleep 990) => `(tactic| exact ⟨rfl, rfl, rfl, by decide +kernel, rfl, by decide +kernel, by decide +kernel⟩)
local macro_rules | `(tactic| sleep 991) => `(tactic| (intro _ _ _ _ _ _ _ hl; apply ar1 hl; intros; rfl))
local macro_rules | `(tactic| sleep 992) => `(tactic| (intro _ _ _ _ _ _ _ hl; apply ar2 hl; intros; rfl))
local macro_rules | `(tactic| sleep 993) => `(tactic| (intro _ _ _ _ _ _ _ hl; apply ar3 hl; intros; rfl))
set_option hygiene true
noncomputable abbrev oG:Stmt:=top 27
noncomputable abbrev xG:List Str:=["_law_script","_law_many","_law_row","_law_odd_here","_law_deck_here","_law_k","_law_at","_law_one"]
noncomputable abbrev qX:List Str:=["_law_script","_law_many"]
theorem sc__law_deck:aX xG qX (aI oG):=by sleep 990
noncomputable def sM:EF:=(fP (aB (fC (.int 48271)) (aB (fC (.int 69621)) (aB (fC (.int 39373)) (aB (fC (.int 40692)) aG)))))
theorem BI(γ:Ga)(M:Sto):sM γ M=some (.d (.list [(.int 48271),(.int 69621),(.int 39373),(.int 40692)]),M):=rfl
noncomputable def fR:SF:=(aO (aZ (fOp gN (aD 5) (aK eF (aB (aD 2) aG))) (hName 6))
 (aO (aZ (fOp gN (fOp ixF (aD 2) (aD 6)) (fC (.int 1000000))) (hName 7))
 (aO (sIf (gB (fOp (eqX false) (aD 3) (fC (.int 0))))
  (aO (aZ (fOp gN (fOp cC (fOp cC (fOp ixF (aD 2) (aD 6)) (fOp sI (fOp sI (aD 5) (aD 5)) (fC (.int 16807)))) (fOp sI (fC (.int 3)) (aD 5))) (fC (.int 2147483629))) (hName 7))
 (aO (aZ (fOp gN (fOp cC (fOp sI (aD 7) (fOp ixF sM (fOp gN (aD 5) (fC (.int 4))))) (fC (.int 7))) (fC (.int 2147483647))) (hName 7))
 (aZ (fOp gN (fOp sI (aD 7) (aD 7)) (fC (.int 2147483629))) (hName 7))))
  (aZ (fOp kR (fOp ixF (aD 2) (aD 6)) (fC (.int 1000000))) (hSub (aD 2) (aD 6) FO)))
 (lL (bU "list" bZ (aD 4) (aB (aD 7) aG))))))
noncomputable def mG:SF:=(aO (aZ (aK CW (aB (aD 0) aG)) (hName 2))
 (aO (sIf (gB (fOp (eqY false) (aD 2) (fP aG)))
  (aZ (kK (aB (fC (.int 4)) aG)) (hName 2))
  bC)
 (aO (aZ (fOp gN (fOp ixF (aD 2) (fC (.int 0))) (fC (.int 2))) (hName 3))
 (aO (aZ (fOp kR (fOp ixF (aD 2) (fC (.int 0))) (fC (.int 2))) (hSub (aD 2) (fC (.int 0)) FO))
 (aO (aZ (kK aG) (hName 4))
 (aO (kW (cZ (aB (aD 1) aG)) (hName 5) fR)
 (aO (lL (bU "list" lG (aD 4) aG))
 (bK (aD 4)))))))))
noncomputable def lU:FN:=fnF 2 8 mG
noncomputable abbrev wF:Stmt:=top 6
noncomputable abbrev IR:List Str:=["thing"]
noncomputable abbrev zM:List Str:=["thing"]
theorem TH:aX IR zM (aI wF):=by sleep 990
noncomputable def LK:SF:=(bK (IT "list" "tuple" (aD 0)))
noncomputable def uU:FN:=fnF 1 1 LK
noncomputable abbrev oM:Stmt:=top 7
noncomputable abbrev xB:List Str:=["thing","length"]
noncomputable abbrev pR:List Str:=["thing","length"]
theorem HG:aX xB pR (aI oM):=by sleep 990
noncomputable def xN:SF:=(bK (lT (aK uU (aB (aD 0) aG)) (fOp (eqX false) (aK eF (aB (aD 0) aG)) (aD 1))))
noncomputable def jG:FN:=fnF 2 2 xN
noncomputable abbrev vX:Stmt:=top 16
noncomputable abbrev IL:List Str:=["one","other"]
noncomputable abbrev BV:List Str:=["one","other"]
theorem sc_common:aX IL BV (aI vX):=by sleep 990
noncomputable def tF:SF:=(nV (nA (aD 1)) (CK 0 1 (aB (aD 1) (aB (fOp gN (aD 0) (aD 1)) aG))))
noncomputable def LG:SF:=(aO tF
 (bK (aD 0)))
noncomputable def AB:FN:=fnF 2 2 LG
noncomputable abbrev qV:Stmt:=top 5
noncomputable abbrev zQ:List Str:=["thing"]
noncomputable abbrev tR:List Str:=["thing"]
theorem JH:aX zQ tR (aI qV):=by sleep 990
noncomputable def yZ:SF:=(bK (lT (kM "int" (aD 0)) (wI (kM "bool" (aD 0)))))
noncomputable def lI:FN:=fnF 1 1 yZ
noncomputable abbrev fS:Stmt:=top 15
noncomputable abbrev jJ:List Str:=["thing"]
noncomputable abbrev gH:List Str:=["thing"]
theorem pO:aX jJ gH (aI fS):=by sleep 990
noncomputable def dH:SF:=(aO (sIf (gOr (fO (gB (aK jG (aB (aD 0) (aB (fC (.int 2)) aG))))) (gOr (fO (gB (aK lI (aB (fOp ixF (aD 0) (fC (.int 0))) aG)))) (fO (gB (aK lI (aB (fOp ixF (aD 0) (fC (.int 1))) aG))))))
 (bK (fC (.bool false)))
 bC)
 (bK (lT (fOp geI (fOp ixF (aD 0) (fC (.int 0))) (fC (.int 0))) (fOp geI (fOp ixF (aD 0) (fC (.int 1))) (fC (.int 1))))))
noncomputable def cD:FN:=fnF 1 1 dH
noncomputable abbrev oW:Stmt:=top 14
noncomputable abbrev xR:List Str:=["thing"]
noncomputable abbrev qM:List Str:=["thing"]
theorem FW:aX xR qM (aI oW):=by sleep 990
noncomputable def jN:SF:=(bK (lT (aK cD (aB (aD 0) aG)) (fOp (eqX false) (aK AB (aB (fOp ixF (aD 0) (fC (.int 0))) (aB (fOp ixF (aD 0) (fC (.int 1))) aG))) (fC (.int 1)))))
noncomputable def fY:FN:=fnF 1 1 jN
noncomputable abbrev rK:Stmt:=top 8
noncomputable abbrev BJ:List Str:=["many","thing"]
noncomputable abbrev tT:List Str:=["many","thing"]
theorem IJ:aX BJ tT (aI rK):=by sleep 990
noncomputable def nW:SF:=(bK (lT (aK lI (aB (aD 1) aG)) (tU leI ltI (fC (.int 0)) (aD 1) (aD 0))))
noncomputable def gE:FN:=fnF 2 2 nW
noncomputable abbrev gF:Stmt:=top 9
noncomputable abbrev jX:List Str:=["many","i","j"]
noncomputable abbrev gR:List Str:=["many","i","j"]
theorem rE:aX jX gR (aI gF):=by sleep 990
noncomputable def dO:SF:=(bK (lT (aK gE (aB (aD 0) (aB (aD 1) aG))) (lT (aK gE (aB (aD 0) (aB (aD 2) aG))) (fOp (eqX true) (aD 1) (aD 2)))))
noncomputable def bJ:FN:=fnF 3 3 dO
noncomputable abbrev fZ:Stmt:=top 11
noncomputable abbrev jY:List Str:=["many","thing"]
noncomputable abbrev gQ:List Str:=["many","thing"]
theorem qA:aX jY gQ (aI fZ):=by sleep 990
noncomputable def cO:SF:=(bK (lT (aK jG (aB (aD 1) (aB (fC (.int 3)) aG))) (lT (aK bJ (aB (aD 0) (aB (fOp ixF (aD 1) (fC (.int 0))) (aB (fOp ixF (aD 1) (fC (.int 1))) aG)))) (fOp ltI (fOp ixF (aD 1) (fC (.int 0))) (fOp ixF (aD 1) (fC (.int 1)))))))
noncomputable def bG:FN:=fnF 2 2 cO
noncomputable abbrev iD:Stmt:=top 25
noncomputable abbrev mX:List Str:=["tree","beside","at","row"]
noncomputable abbrev nF:List Str:=["tree"]
theorem sc_rows_beside:aX mX nF (aI iD):=by sleep 990
noncomputable def jS:EF:=(aAy [none] (cZ (aB (fOp cC (aK eF (aB (aD 0) aG)) (fC (.int 1))) aG)) (hName 0) jH (kK aG))
noncomputable def gY:SF:=(aO (lL (bU "list" bZ (fOp ixF (aD 1) (fOp ixF (aD 3) (fC (.int 0)))) (aB (bL (aB (fOp ixF (aD 3) (fC (.int 1))) (aB (aD 2) aG))) aG)))
 (lL (bU "list" bZ (fOp ixF (aD 1) (fOp ixF (aD 3) (fC (.int 1)))) (aB (bL (aB (fOp ixF (aD 3) (fC (.int 0))) (aB (aD 2) aG))) aG))))
noncomputable def mT:SF:=(aO (aZ jS (hName 1))
 (aO (kW (KN (aB (aD 0) aG)) (lB 2 (bT (hName 2) (bT (hName 3) lR))) gY)
 (bK (aD 1))))
noncomputable def iZ:FN:=fnF 1 4 mT
noncomputable abbrev mP:Stmt:=top 24
noncomputable abbrev uC:List Str:=["tree","start","beside","seen","waiting","steps","here","there","at"]
noncomputable abbrev oB:List Str:=["tree","start"]
theorem sc_steps_from:aX uC oB (aI mP):=by sleep 990
noncomputable def eA:SF:=(sIf (gB (pN true (gA (aD 7)) (aD 3)))
 (aO (kN (aD 3) (gA (aD 7)) (fC (.bool true)))
 (aO (lL (bU "list" bZ (aD 4) (aB (aD 7) aG)))
 (lL (bU "list" bZ (aD 5) (aB (bL (aB (aD 6) (aB (aD 7) (aB (aD 8) aG)))) aG)))))
  bC)
noncomputable def rF:SF:=(nV (nA (aD 4)) (aO (aZ (bU "list" jD (aD 4) aG) (hName 6))
 (DR (sA (fOp ixF (aD 2) (aD 6))) (lB 2 (bT (hName 7) (bT (hName 8) lR))) eA)))
noncomputable def oQ:SF:=(aO (aZ (aK iZ (aB (aD 0) aG)) (hName 2))
 (aO (aZ (pS [((aD 1),(fC (.bool true)))]) (hName 3))
 (aO (aZ (kK (aB (aD 1) aG)) (hName 4))
 (aO (aZ (kK aG) (hName 5))
 (aO rF
 (bK (aD 5)))))))
noncomputable def eP:FN:=fnF 2 9 oQ
noncomputable abbrev kC:Stmt:=top 12
noncomputable abbrev qN:List Str:=["row"]
noncomputable abbrev rJ:List Str:=["row"]
theorem GV:aX qN rJ (aI kC):=by sleep 990
noncomputable def nE:EF:=(fLc [none,none] (aCF (aB (aD 0) (aB (fSl (aD 0) (dW (fC (.int 1))) bV) aG))) (lB 2 (bT (hName 0) (bT (hName 1) lR))) jH (fOp ltX (aD 0) (aD 1)))
noncomputable def qL:SF:=(bK (aK LM (aB nE aG)))
noncomputable def mC:FN:=fnF 1 1 qL
noncomputable abbrev lE:Stmt:=top 19
noncomputable abbrev rV:List Str:=["many","tree"]
noncomputable abbrev vY:List Str:=["many","tree"]
theorem NJ:aX rV vY (aI lE):=by sleep 990
noncomputable def xW:EF:=(fLc [some 0,none] (fU (aD 1)) (hName 1) jH (lT (aK bG (aB (aD 0) (aB (aD 1) aG))) (aK fY (aB (fOp ixF (aD 1) (fC (.int 2))) aG))))
noncomputable def wY:EF:=(fLc [none] (fU (aD 1)) (hName 0) jH (bL (aB (fOp ixF (aD 0) (fC (.int 0))) (aB (fOp ixF (aD 0) (fC (.int 1))) aG))))
noncomputable def hW:SF:=(aO (sIf (gOr (gB (fOp gtI (aD 0) (fC (.int 40)))) (fO (gB (aK jG (aB (aD 1) (aB (fOp sE (aD 0) (fC (.int 1))) aG))))))
 (bK (fC (.bool false)))
 bC)
 (aO (sIf (fO (gB (aK LM (aB xW aG))))
  (bK (fC (.bool false)))
  bC)
 (bK (lT (aK mC (aB wY aG)) (fOp (eqX false) (aK eF (aB (aK eP (aB (aD 1) (aB (fC (.int 0)) aG))) aG)) (fOp sE (aD 0) (fC (.int 1))))))))
noncomputable def dX:FN:=fnF 2 2 hW
noncomputable abbrev iA:Stmt:=top 22
noncomputable abbrev nT:List Str:=["tree"]
noncomputable abbrev iQ:List Str:=["tree"]
theorem uH:aX nT iQ (aI iA):=by sleep 990
noncomputable def eZ:SFX:=(LO (gOr (fO (gB (aK uU (aB (aD 0) aG)))) (fO (gB (aK dX (aB (fOp cC (aK eF (aB (aD 0) aG)) (fC (.int 1))) (aB (aD 0) aG))))))
 (tD "NoTree")
 (liS bC))
noncomputable def cE:FX:=fnX 1 1 eZ
noncomputable abbrev fD:Stmt:=top 10
noncomputable abbrev iJ:List Str:=["many","i","j"]
noncomputable abbrev fJ:List Str:=["many","i","j"]
theorem nK:aX iJ fJ (aI fD):=by sleep 990
noncomputable def dP:SFX:=(LO (fO (gB (aK bJ (aB (aD 0) (aB (aD 1) (aB (aD 2) aG))))))
 (tD "NoPlace")
 (liS bC))
noncomputable def cL:FX:=fnX 3 3 dP
noncomputable abbrev lW:Stmt:=top 20
noncomputable abbrev tK:List Str:=["tree","i","j","came","way","place","at"]
noncomputable abbrev sZ:List Str:=["tree","i","j"]
theorem sc_tree_way:aX tK sZ (aI lW):=by sleep 990
noncomputable def kF:EF:=(fDc (.dk []) [none,none,none] (fU (bX (aK eP (aB (aD 0) (aB (aD 2) aG))))) (lB 3 (bT (hName 0) (bT (hName 1) (bT (hName 2) lR)))) jH (gA (aD 1)) (bL (aB (aD 0) (aB (aD 2) aG))))
noncomputable def oD:SF:=(nV (gB (fOp (eqX true) (aD 5) (aD 2))) (aO (aZ (lC (aD 3) (gA (aD 5))) (lB 2 (bT (hName 5) (bT (hName 6) lR))))
 (lL (bU "list" bZ (aD 4) (aB (aD 6) aG)))))
noncomputable def lJ:SFX:=(jE (jW (pG cE (liA (aB (aD 0) aG))))
 (jE (jW (pG cL (liA (aB (fOp cC (aK eF (aB (aD 0) aG)) (fC (.int 1))) (aB (aD 1) (aB (aD 2) aG))))))
 (liS (aO (aZ kF (hName 3))
 (aO (aZ (kK aG) (hName 4))
 (aO (aZ (aD 1) (hName 5))
 (aO oD
 (bK (aK dN (aB (aD 4) aG))))))))))
noncomputable def cV:FX:=fnX 3 7 lJ
noncomputable abbrev kQ:Stmt:=top 23
noncomputable abbrev sQ:List Str:=["tree","k","behind","here","there","at"]
noncomputable abbrev nG:List Str:=["tree","k"]
theorem sc_side_behind:aX sQ nG (aI kQ):=by sleep 990
noncomputable def eK:SF:=(sIf (gOr (gB (fOp (eqX false) (aD 5) (aD 1))) (gB (pN false (gA (aD 3)) (aD 2))))
 (kN (aD 2) (gA (aD 4)) (fC (.bool true)))
 bC)
noncomputable def mS:SF:=(aO (aZ HN (hName 2))
 (aO (kW (fU (bX (aK eP (aB (aD 0) (aB (fC (.int 0)) aG))))) (lB 3 (bT (hName 3) (bT (hName 4) (bT (hName 5) lR)))) eK)
 (bK (aK dN (aB (aK rR (aB (aD 2) aG)) aG)))))
noncomputable def mU:FN:=fnF 2 6 mS
noncomputable abbrev oV:Stmt:=top 21
noncomputable abbrev xK:List Str:=["tree","k"]
noncomputable abbrev qG:List Str:=["tree","k"]
theorem IB:aX xK qG (aI oV):=by sleep 990
noncomputable def jI:SFX:=(jE (jW (pG cE (liA (aB (aD 0) aG))))
 (jE (LO (fO (gB (aK gE (aB (aK eF (aB (aD 0) aG)) (aB (aD 1) aG)))))
  (tD "NoPlace")
  (liS bC))
 (liS (bK (aK mU (aB (aD 0) (aB (aD 1) aG)))))))
noncomputable def bQ:FX:=fnX 2 2 jI
noncomputable abbrev jO:Stmt:=top 39
noncomputable abbrev qZ:List Str:=["_law_tree","_law_i","_law_j","_law_found","_law_which","_law_told","error"]
noncomputable abbrev lA:List Str:=["_law_tree","_law_i","_law_j"]
theorem sc__law_refused:aX qZ lA (aI jO):=by sleep 990
noncomputable def fA:SF:=(aZ (fOp sI (fC (.int 2)) (aK lM (aB (lT (xE fH (some false) (aD 6)) (xE dU (some false) (aD 6))) aG))) (hName 5))
noncomputable def fB:SF:=(aO (aZ (aK lM (aB (lT (xE fH (some false) (aD 6)) (xE dU (some false) (aD 6))) aG)) (hName 5))
 (sIf (gB (xE kP (some false) (aD 6)))
  (aZ (fC (.int 3)) (hName 5))
  bC))
noncomputable def bW:SFX:=(LO (gB (fOp (eqX false) (aD 4) (fC (.int 0))))
 (jW (pG cV (liA (aB (aD 0) (aB (aD 1) (aB (aD 2) aG))))))
 (jW (pG bQ (liA (aB (aD 0) (aB (aD 1) aG))))))
noncomputable def gM:SF:=(aO (aZ (fC (.int 0)) (hName 5))
 (aO (TX bW [⟨[("NoPlace",false),("NoTree",true)],(some 6),fB⟩,⟨[("NoPlace",true),("NoTree",false)],(some 6),fA⟩])
 (lL (bU "list" bZ (aD 3) (aB (aD 5) aG)))))
noncomputable def lH:SF:=(aO (aZ (kK aG) (hName 3))
 (aO (kW (cZ (aB (fC (.int 2)) aG)) (hName 4) gM)
 (bK (aD 3))))
noncomputable def aS:FN:=fnF 3 7 lH
noncomputable abbrev lS:Stmt:=top 30
noncomputable abbrev sR:List Str:=["_law_draw","_law_some"]
noncomputable abbrev mO:List Str:=["_law_draw"]
theorem sc__law_amount:aX sR mO (aI lS):=by sleep 990
noncomputable def jP:EF:=(fP (aB (bL (aB (fC (.int 0)) (aB (fC (.int 1)) aG))) (aB (bL (aB (fC (.int 1)) (aB (fC (.int 1)) aG))) (aB (bL (aB (fC (.int 1)) (aB (fC (.int 1)) aG))) (aB (bL (aB (fC (.int 2)) (aB (fC (.int 1)) aG))) (aB (bL (aB (fC (.int 1)) (aB (fC (.int 2)) aG))) (aB (bL (aB (fC (.int 3)) (aB (fC (.int 4)) aG))) (aB (bL (aB (fOp CB (fC (.int 10)) (fC (.int 30))) (aB (fC (.int 7)) aG))) (aB (bL (aB (fC (.int 5)) (aB (fOp cC (fOp CB (fC (.int 10)) (fC (.int 20))) (fC (.int 39))) aG))) aG)))))))))
theorem vW(γ:Ga)(M:Sto):jP γ M=some (.d (.list [(.tuple [(.int 0),(.int 1)]),(.tuple [(.int 1),(.int 1)]),(.tuple [(.int 1),(.int 1)]),(.tuple [(.int 2),(.int 1)]),(.tuple [(.int 1),(.int 2)]),(.tuple [(.int 3),(.int 4)]),(.tuple [(.int 1000000000000000000000000000000),(.int 7)]),(.tuple [(.int 5),(.int 100000000000000000039)])]),M):=rfl
noncomputable def mZ:SF:=(aO (aZ jP (hName 1))
 (bK (fOp ixF (aD 1) (fOp gN (aD 0) (fC (.int 8))))))
noncomputable def iY:FN:=fnF 1 2 mZ
noncomputable abbrev mM:Stmt:=top 31
noncomputable abbrev vE:List Str:=["_law_deck_here","_law_many","_law_rows","_law_k","_law_draw"]
noncomputable abbrev oF:List Str:=["_law_deck_here","_law_many"]
theorem sc__law_drawn:aX vE oF (aI mM):=by sleep 990
noncomputable def iG:SF:=(aO (aZ (bU "list" jD (aD 0) aG) (hName 4))
 (lL (bU "list" bZ (aD 2) (aB (bL (aB (fOp gN (aD 4) (aD 3)) (aB (aD 3) (aB (aK iY (aB (fOp kR (aD 4) (fC (.int 64))) aG)) aG)))) aG))))
noncomputable def nZ:SF:=(aO (aZ (kK aG) (hName 2))
 (aO (kW (EY (aB (fC (.int 1)) (aB (aD 1) aG))) (hName 3) iG)
 (bK (aK dN (aB (aK wK (aB (aD 2) aG)) aG)))))
noncomputable def gJ:FN:=fnF 2 5 nZ
noncomputable abbrev oA:Stmt:=top 38
noncomputable abbrev xJ:List Str:=["_law_tree","_law_first","_law_found","_law_turn","_law_k","_law_i","_law_j"]
noncomputable abbrev rA:List Str:=["_law_tree","_law_first"]
theorem sc__law_ways:aX xJ rA (aI oA):=by sleep 990
noncomputable def eS:SF:=(aO (aZ (fSl (fOp ixF (aD 0) (aD 4)) bV (dW (fC (.int 2)))) (lB 2 (bT (hName 5) (bT (hName 6) lR))))
 (sIf (kZ (gB (pN false (gA (aD 5)) (aD 2))) (gB (pN true (gA (aD 6)) (aD 2))))
  (kN (aD 2) (gA (aD 6)) (fOp cC (lC (aD 2) (gA (aD 5))) (bL (aB (aD 4) aG))))
  (sIf (kZ (gB (pN false (gA (aD 6)) (aD 2))) (gB (pN true (gA (aD 5)) (aD 2))))
  (kN (aD 2) (gA (aD 5)) (fOp cC (lC (aD 2) (gA (aD 6))) (bL (aB (aD 4) aG))))
  bC)))
noncomputable def iW:SF:=(kW (cZ (aB (aK eF (aB (aD 0) aG)) aG)) (hName 4) eS)
noncomputable def qF:SF:=(aO (aZ (pS [((aD 1),(bL aG))]) (hName 2))
 (aO (kW (cZ (aB (aK eF (aB (aD 0) aG)) aG)) (hName 3) iW)
 (bK (aD 2))))
noncomputable def eR:FN:=fnF 2 7 qF
noncomputable abbrev iX:Stmt:=top 29
noncomputable abbrev kB:List Str:=["_law_thing"]
noncomputable abbrev kE:List Str:=["_law_thing"]
theorem sW:aX kB kE (aI iX):=by sleep 990
noncomputable def lO(self:FN):EF:=(fLc [none] (fU (aD 0)) (hName 0) jH (aK self (aB (aD 0) aG)))
noncomputable def kI(self:FN):SF:=(aO (sIf (fO (gB (kM "tuple" (aD 0))))
 (bK (aD 0))
 bC)
 (bK (lO self)))
noncomputable def bO:Nat->FN
 |0=>fun _ _=>none
 |n+1=>fnF 1 1 (kI (bO n))
noncomputable abbrev mY:Stmt:=top 40
noncomputable abbrev uV:List Str:=["_law_tree","_law_many","_law_i","_law_ways_here","_law_j","_law_handed","_law_found"]
noncomputable abbrev oY:List Str:=["_law_tree","_law_many","_law_i"]
theorem sc__law_right:aX uV oY (aI mY):=by sleep 990
noncomputable def iE:SF:=(aO (aZ (iM cV (aB (aD 5) (aB (aD 2) (aB (aD 4) aG)))) (hName 6))
 (sIf (gOr (fO (gB (kM "tuple" (aD 6)))) (gB (fOp (eqX true) (aD 6) (lC (aD 3) (gA (aD 4))))))
  (bK (fC (.bool false)))
  bC))
noncomputable def gG:SF:=(sIf (gB (fOp (eqX true) (aD 4) (aD 2)))
 (kW (fU (fP (aB (aD 0) (aB (aK (bO 6) (aB (aD 0) aG)) aG)))) (hName 5) iE)
 bC)
noncomputable def oP:SF:=(aO (aZ (aK eR (aB (aD 0) (aB (aD 2) aG))) (hName 3))
 (aO (kW (cZ (aB (aD 1) aG)) (hName 4) gG)
 (bK (fC (.bool true)))))
noncomputable def dE:FN:=fnF 3 7 oP
noncomputable abbrev qD:Stmt:=top 36
noncomputable abbrev zV:List Str:=["_law_draw","_law_odd_here"]
noncomputable abbrev tE:List Str:=["_law_draw"]
theorem sc__law_odd:aX zV tE (aI qD):=by sleep 990
noncomputable def oS:EF:=(fP (aB (fC .none) (aB (fC (.bool true)) (aB (fC (.int 0)) (aB (fC (.int 3)) (aB (fC (.str "0")) (aB (bL aG) (aB (fP aG) (aB wL (aB (bL (aB (fC (.int 0)) (aB (fC (.int 1)) aG))) (aB (bL (aB (bL (aB (fC (.int 0)) (aB (fC (.int 1)) aG))) aG)) (aB (bL (aB (bL (aB (fC (.int 0)) (aB (fC (.int 1)) (aB (bL (aB (fC (.int 1)) (aB (fC (.int 1)) aG))) (aB (fC (.int 0)) aG))))) aG)) (aB (bL (aB (bL (aB (fC (.int 0)) (aB (fC (.int 1)) (aB (fC (.int 1)) aG)))) aG)) (aB (bL (aB (bL (aB (fC (.int 0)) (aB (fC (.int 1)) (aB (bL (aB (fC (.int 2)) (aB (fC (.int 2)) aG))) aG)))) aG)) aG))))))))))))))
theorem CF(γ:Ga)(M:Sto):oS γ M=some (.d (.list [.none,(.bool true),(.int 0),(.int 3),(.str "0"),(.tuple []),(.list []),(.dict []),(.tuple [(.int 0),(.int 1)]),(.tuple [(.tuple [(.int 0),(.int 1)])]),(.tuple [(.tuple [(.int 0),(.int 1),(.tuple [(.int 1),(.int 1)]),(.int 0)])]),(.tuple [(.tuple [(.int 0),(.int 1),(.int 1)])]),(.tuple [(.tuple [(.int 0),(.int 1),(.tuple [(.int 2),(.int 2)])])])]),M):=rfl
noncomputable def oH:EF:=(fP (aB (bL (aB (bL (aB (fC (.int 1)) (aB (fC (.int 0)) (aB (bL (aB (fC (.int 1)) (aB (fC (.int 1)) aG))) aG)))) aG)) (aB (bL (aB (bL (aB (fC (.int 0)) (aB (fC (.int 0)) (aB (bL (aB (fC (.int 1)) (aB (fC (.int 1)) aG))) aG)))) aG)) (aB (bL (aB (bL (aB (fC (.int 0)) (aB (fC (.int 1)) (aB (bL (aB (fUn yD (fC (.int 1))) (aB (fC (.int 1)) aG))) aG)))) aG)) (aB (bL (aB (bL (aB (fC (.int 0)) (aB (fC (.int 1)) (aB (bL (aB (fC (.int 1)) (aB (fC (.int 0)) aG))) aG)))) aG)) (aB (bL (aB (bL (aB (fC (.bool false)) (aB (fC (.bool true)) (aB (bL (aB (fC (.int 1)) (aB (fC (.int 1)) aG))) aG)))) aG)) aG))))))
theorem CG(γ:Ga)(M:Sto):oH γ M=some (.d (.list [(.tuple [(.tuple [(.int 1),(.int 0),(.tuple [(.int 1),(.int 1)])])]),(.tuple [(.tuple [(.int 0),(.int 0),(.tuple [(.int 1),(.int 1)])])]),(.tuple [(.tuple [(.int 0),(.int 1),(.tuple [(.int (-1)),(.int 1)])])]),(.tuple [(.tuple [(.int 0),(.int 1),(.tuple [(.int 1),(.int 0)])])]),(.tuple [(.tuple [(.bool false),(.bool true),(.tuple [(.int 1),(.int 1)])])])]),M):=rfl
noncomputable def tN:SF:=(aO (aZ oS (hName 1))
 (aO (aZ (fOp cC (aD 1) oH) (hName 1))
 (bK (fOp ixF (aD 1) (fOp gN (aD 0) (fC (.int 18)))))))
noncomputable def kX:FN:=fnF 1 2 tN
noncomputable abbrev oI:Stmt:=top 37
noncomputable abbrev xF:List Str:=["_law_tree","_law_draw","_law_many","_law_way","_law_more","_law_at","_law_i","_law_j","_law_amount_here","_law_bent_here"]
noncomputable abbrev rG:List Str:=["_law_tree","_law_draw","_law_many"]
theorem sc__law_bent:aX xF rG (aI oI):=by sleep 990
noncomputable def sX:EF:=(bL (aB (fUn yD (fC (.int 1))) (aB (fC (.int 1)) aG)))
theorem BP(γ:Ga)(M:Sto):sX γ M=some (.d (.tuple [(.int (-1)),(.int 1)]),M):=rfl
noncomputable def sO:EF:=(fP (aB (fC (.bool true)) (aB (fC (.int 1)) aG)))
theorem AC(γ:Ga)(M:Sto):sO γ M=some (.d (.list [(.bool true),(.int 1)]),M):=rfl
noncomputable def cR:SF:=(aO (aZ (fOp gN (aD 1) (fC (.int 9))) (hName 3))
 (aO (aZ (fOp kR (aD 1) (fC (.int 9))) (hName 4))
 (aO (sIf (gOr (gB (fOp (eqX false) (aD 3) (fC (.int 0)))) (gB (fOp (eqX false) (aD 0) (bL aG))))
  (bK (aK kX (aB (aD 4) aG)))
  bC)
 (aO (aZ (fOp gN (aD 4) (aK eF (aB (aD 0) aG))) (hName 5))
 (aO (aZ (fOp ixF (aD 0) (aD 5)) (lB 3 (bT (hName 6) (bT (hName 7) (bT (hName 8) lR)))))
 (aO (sIf (gB (fOp (eqX false) (aD 3) (fC (.int 1))))
  (bK (fOp cC (fSl (aD 0) bV (dW (aD 5))) (fSl (aD 0) (dW (fOp cC (aD 5) (fC (.int 1)))) bV)))
  bC)
 (aO (sIf (gB (fOp (eqX false) (aD 3) (fC (.int 2))))
  (bK (fOp cC (aD 0) (fSl (aD 0) (dW (aD 5)) (dW (fOp cC (aD 5) (fC (.int 1)))))))
  bC)
 (aO (sIf (gB (fOp (eqX false) (aD 3) (fC (.int 3))))
  (bK (aBu (aD 0) (dW (fUn yD (fC (.int 1))))))
  bC)
 (aO (sIf (gB (fOp (eqX false) (aD 3) (fC (.int 4))))
  (bK (fOp cC (fOp cC (fSl (aD 0) bV (dW (aD 5))) (bL (aB (bL (aB (aD 7) (aB (aD 6) (aB (aD 8) aG)))) aG))) (fSl (aD 0) (dW (fOp cC (aD 5) (fC (.int 1)))) bV)))
  bC)
 (aO (sIf (gB (fOp (eqX false) (aD 3) (fC (.int 5))))
  (aO (aZ (kK (aB (bL (aB (fOp ixF (aD 8) (fC (.int 0))) (aB (fOp ixF (aD 8) (fC (.int 1))) (aB (fC (.int 1)) aG)))) (aB (bL (aB (fOp sI (fC (.int 2)) (fOp ixF (aD 8) (fC (.int 0)))) (aB (fOp sI (fC (.int 2)) (fOp ixF (aD 8) (fC (.int 1)))) aG))) (aB (bL (aB (fOp ixF (aD 8) (fC (.int 0))) (aB (fC (.int 0)) aG))) (aB sX (aB (fOp ixF (aD 8) (fC (.int 0))) aG)))))) (hName 9))
 (aO (lL (bU "list" bZ (aD 9) (aB sO aG)))
 (bK (fOp cC (fOp cC (fSl (aD 0) bV (dW (aD 5))) (bL (aB (bL (aB (aD 6) (aB (aD 7) (aB (fOp ixF (aD 9) (fOp gN (fOp kR (aD 4) (fC (.int 9))) (fC (.int 6)))) aG)))) aG))) (fSl (aD 0) (dW (fOp cC (aD 5) (fC (.int 1)))) bV)))))
  bC)
 (aO (sIf (gB (fOp (eqX false) (aD 3) (fC (.int 6))))
  (bK (fOp cC (fOp cC (fSl (aD 0) bV (dW (aD 5))) (bL (aB (bL (aB (aD 6) (aB (fOp gN (fOp kR (aD 4) (fC (.int 9))) (fOp cC (aD 2) (fC (.int 1)))) (aB (aD 8) aG)))) aG))) (fSl (aD 0) (dW (fOp cC (aD 5) (fC (.int 1)))) bV)))
  bC)
 (aO (sIf (gB (fOp (eqX false) (aD 3) (fC (.int 7))))
  (bK (aK dN (aB (aK zG (aB (fOp cC (fOp cC (fSl (aD 0) bV (dW (aD 5))) (bL (aB (bL (aB (fC (.int 0)) (aB (fOp cC (fC (.int 1)) (fOp gN (fOp kR (aD 4) (fC (.int 9))) (aD 2))) (aB (aD 8) aG)))) aG))) (fSl (aD 0) (dW (fOp cC (aD 5) (fC (.int 1)))) bV)) aG)) aG)))
  bC)
 (bK (fOp cC (fOp cC (fSl (aD 0) bV (dW (aD 5))) (bL (aB (aK kX (aB (fOp kR (aD 4) (fC (.int 9))) aG)) aG))) (fSl (aD 0) (dW (fOp cC (aD 5) (fC (.int 1)))) bV)))))))))))))))
noncomputable def bM:FN:=fnF 3 10 cR
noncomputable abbrev lN:Stmt:=top 33
noncomputable abbrev sU:List Str:=["_law_thing"]
noncomputable abbrev mI:List Str:=["_law_thing"]
theorem BM:aX sU mI (aI lN):=by sleep 990
noncomputable def sT:SF:=(bK (IT "list" "tuple" (aD 0)))
noncomputable def dA:FN:=fnF 1 1 sT
noncomputable abbrev iN:Stmt:=top 32
noncomputable abbrev pC:List Str:=["_law_thing","_law_least","_law_most"]
noncomputable abbrev jT:List Str:=["_law_thing","_law_least","_law_most"]
theorem vO:aX pC jT (aI iN):=by sleep 990
noncomputable def gX:SF:=(bK (lT (kM "int" (aD 0)) (lT (wI (kM "bool" (aD 0))) (tU leI leI (aD 1) (aD 0) (aD 2)))))
noncomputable def cP:FN:=fnF 3 3 gX
noncomputable abbrev kO:Stmt:=top 28
noncomputable abbrev sL:List Str:=["_law_above","_law_below","_law_one","_law_other"]
noncomputable abbrev nI:List Str:=["_law_above","_law_below"]
theorem sc__law_lowest:aX sL nI (aI kO):=by sleep 990
noncomputable def pE:SF:=(nV (gB (fOp gtI (aD 3) (fC (.int 0)))) (CK 2 3 (aB (aD 3) (aB (fOp gN (aD 2) (aD 3)) aG))))
noncomputable def nB:SF:=(aO (CK 2 3 (aB (aD 0) (aB (aD 1) aG)))
 (aO pE
 (bK (bL (aB (fOp kR (aD 0) (aD 2)) (aB (fOp kR (aD 1) (aD 2)) aG))))))
noncomputable def iT:FN:=fnF 2 4 nB
noncomputable abbrev iF:Stmt:=top 34
noncomputable abbrev nN:List Str:=["_law_thing"]
noncomputable abbrev iS:List Str:=["_law_thing"]
theorem uI:aX nN iS (aI iF):=by sleep 990
noncomputable def cU:SF:=(aO (sIf (gOr (fO (gB (aK dA (aB (aD 0) aG)))) (gOr (gB (fOp (eqX true) (aK eF (aB (aD 0) aG)) (fC (.int 2)))) (fO (gB (aK cP (aB (fOp ixF (aD 0) (fC (.int 0))) (aB (fC (.int 0)) (aB (fOp CB (fC (.int 10)) (fC (.int 60))) aG))))))))
 (bK (fC (.bool false)))
 bC)
 (bK (lT (aK cP (aB (fOp ixF (aD 0) (fC (.int 1))) (aB (fC (.int 1)) (aB (fOp CB (fC (.int 10)) (fC (.int 60))) aG)))) (fOp (eqX false) (aK iT (aB (fOp ixF (aD 0) (fC (.int 0))) (aB (fOp ixF (aD 0) (fC (.int 1))) aG))) (aK dN (aB (aD 0) aG))))))
noncomputable def cF:FN:=fnF 1 1 cU
noncomputable abbrev gV:Stmt:=top 35
noncomputable abbrev lK:List Str:=["_law_many","_law_thing","_law_heaps","_law_before","_law_row","_law_old"]
noncomputable abbrev kU:List Str:=["_law_many","_law_thing"]
theorem sc__law_is_tree:aX lK kU (aI gV):=by sleep 990
noncomputable def nO:EF:=(bL (aB (fUn yD (fC (.int 1))) (aB (fC (.int 0)) (aB (bL aG) aG))))
theorem mE(γ:Ga)(M:Sto):nO γ M=some (.d (.tuple [(.int (-1)),(.int 0),(.tuple [])]),M):=rfl
noncomputable def iR:EF:=(fLc [some 2,some 5,some 4,none] (fU (aD 2)) (hName 3) jH (fOp ixF (fP (aB (aD 3) (aB (fOp ixF (aD 0) (fOp ixF (aD 2) (fC (.int 0)))) aG))) (aK lM (aB (fOp (eqX false) (aD 3) (aD 1)) aG))))
noncomputable def aN:SF:=(aO (sIf (gOr (fO (gB (aK dA (aB (aD 4) aG)))) (gOr (gB (fOp (eqX true) (aK eF (aB (aD 4) aG)) (fC (.int 3)))) (fO (gB (aK cF (aB (fOp ixF (aD 4) (fC (.int 2))) aG))))))
 (bK (fC (.bool false)))
 bC)
 (aO (sIf (gOr (fO (gB (aK cP (aB (fOp ixF (aD 4) (fC (.int 0))) (aB (fC (.int 0)) (aB (fOp sE (aD 0) (fC (.int 1))) aG)))))) (gOr (fO (gB (aK cP (aB (fOp ixF (aD 4) (fC (.int 1))) (aB (fC (.int 0)) (aB (fOp sE (aD 0) (fC (.int 1))) aG)))))) (gB (fOp geI (fOp ixF (aD 4) (fC (.int 0))) (fOp ixF (aD 4) (fC (.int 1)))))))
  (bK (fC (.bool false)))
  bC)
 (aO (sIf (gOr (gB (fOp (eqX false) (fOp ixF (aD 2) (fOp ixF (aD 4) (fC (.int 0)))) (fOp ixF (aD 2) (fOp ixF (aD 4) (fC (.int 1)))))) (fO (gB (fOp ltX (aD 3) (bL (aB (fOp ixF (aD 4) (fC (.int 0))) (aB (fOp ixF (aD 4) (fC (.int 1))) (aB (aK dN (aB (fOp ixF (aD 4) (fC (.int 2))) aG)) aG))))))))
  (bK (fC (.bool false)))
  bC)
 (aO (aZ (bL (aB (fOp ixF (aD 4) (fC (.int 0))) (aB (fOp ixF (aD 4) (fC (.int 1))) (aB (aK dN (aB (fOp ixF (aD 4) (fC (.int 2))) aG)) aG)))) (hName 3))
 (aO (aZ (fOp ixF (aD 2) (fOp ixF (aD 4) (fC (.int 1)))) (hName 5))
 (aZ iR (hName 2)))))))
noncomputable def eX:SF:=(aO (sIf (gOr (fO (gB (aK dA (aB (aD 1) aG)))) (gB (fOp (eqX true) (aK eF (aB (aD 1) aG)) (fOp sE (aD 0) (fC (.int 1))))))
 (bK (fC (.bool false)))
 bC)
 (aO (aZ (tW false (aB (aD 0) aG)) (hName 2))
 (aO (aZ nO (hName 3))
 (aO (kW (fU (aD 1)) (hName 4) aN)
 (bK (fC (.bool true)))))))
noncomputable def bP:FN:=fnF 2 6 eX
noncomputable abbrev zA:Stmt:=top 41
noncomputable abbrev QL:List Str:=["_law_script","_law_deck_here","_law_k","_law_many","_law_tree","_law_ways_here","_law_at","_law_side","_law_found","_law_odd_here","_law_due","_law_bent_here","_law_is_none"]
noncomputable abbrev aDj:List Str:=["_law_script"]
theorem sc_law:aX QL aDj (aI zA):=by sleep 990
noncomputable def GN:EF:=(bL (aB (fC (.int 1)) (aB (fC (.int 1)) aG)))
noncomputable def yT:EF:=(fLc [none] (cZ (aB (fC (.int 40)) aG)) (hName 0) jH (bL (aB (aD 0) (aB (fOp cC (aD 0) (fC (.int 1))) (aB GN aG)))))
noncomputable def HC:EF:=(fP (aB (fC (.int 1)) (aB (fC (.int 1)) aG)))
theorem YV(γ:Ga)(M:Sto):HC γ M=some (.d (.list [(.int 1),(.int 1)]),M):=rfl
noncomputable def FY:EF:=(fP (aB (bL (aB (fC (.int 0)) (aB (fC (.int 1)) (aB (bL (aB (fC (.int 1)) (aB (fC (.int 1)) aG))) aG)))) aG))
theorem WR(γ:Ga)(M:Sto):FY γ M=some (.d (.list [(.tuple [(.int 0),(.int 1),(.tuple [(.int 1),(.int 1)])])]),M):=rfl
noncomputable def FC:EF:=(bL (aB (fC (.int 1)) aG))
theorem VU(γ:Ga)(M:Sto):FC γ M=some (.d (.tuple [(.int 1)]),M):=rfl
noncomputable def HX:EF:=(fP (aB (bL (aB (fC (.int 0)) (aB (fC (.int 1)) (aB (bL (aB (fC (.int 1)) (aB (fC (.int 1)) aG))) aG)))) aG))
theorem WB(γ:Ga)(M:Sto):HX γ M=some (.d (.list [(.tuple [(.int 0),(.int 1),(.tuple [(.int 1),(.int 1)])])]),M):=rfl
noncomputable def HP:EF:=(bL (aB (fC (.int 0)) aG))
theorem YU(γ:Ga)(M:Sto):HP γ M=some (.d (.tuple [(.int 0)]),M):=rfl
noncomputable def uD:EF:=(fLc [some 6,some 5,none] (cZ (aB (aD 3) aG)) (hName 2) (gB (fOp (inD false) (aD 0) (lC (aD 1) (gA (aD 2))))) (aD 2))
noncomputable def rW:SF:=(aO (aZ (aK dN (aB uD aG)) (hName 7))
 (aO (aZ (iM bQ (aB (aD 4) (aB (aD 6) aG))) (hName 8))
 (sIf (gOr (fO (gB (kM "tuple" (aD 8)))) (gOr (gB (fOp (eqX true) (aD 8) (aD 7))) (gB (fOp (eqX true) (iM bQ (aB (aK (bO 6) (aB (aD 4) aG)) (aB (aD 6) aG))) (aD 7)))))
  (bK (fC (.bool false)))
  bC)))
noncomputable def HH:EF:=(bL (aB (fC (.int 0)) aG))
noncomputable def vJ:EF:=(fP (aB (fC (.int 2)) (aB (fC (.int 2)) aG)))
theorem YA(γ:Ga)(M:Sto):vJ γ M=some (.d (.list [(.int 2),(.int 2)]),M):=rfl
noncomputable def HA:EF:=(fP (aB (fC (.int 2)) (aB (fC (.int 0)) aG)))
noncomputable def uP:EF:=(fP (aB (fC (.int 2)) (aB (fC (.int 2)) aG)))
theorem ZM(γ:Ga)(M:Sto):uP γ M=some (.d (.list [(.int 2),(.int 2)]),M):=rfl
noncomputable def pT:EF:=(fP (aB (fC (.int 1)) (aB (fC (.int 1)) aG)))
theorem SY(γ:Ga)(M:Sto):pT γ M=some (.d (.list [(.int 1),(.int 1)]),M):=rfl
noncomputable def qJ:EF:=(fP (aB (fC (.int 1)) (aB (fC (.int 1)) aG)))
theorem TB(γ:Ga)(M:Sto):qJ γ M=some (.d (.list [(.int 1),(.int 1)]),M):=rfl
noncomputable def vC:SF:=(aO (aZ (fOp ixF (fP (aB (fOp cC (fC (.int 1)) (fOp gN (bU "list" jD (aD 1) aG) (fC (.int 9)))) (aB (fC (.int 40)) aG))) (aK lM (aB (fOp (eqX false) (aD 2) (fC (.int 2))) aG))) (hName 3))
 (aO (aZ (aK gJ (aB (aD 1) (aB (aD 3) aG))) (hName 4))
 (aO (sIf (gOr (fO (gB (aK dE (aB (aD 4) (aB (aD 3) (aB (fOp gN (bU "list" jD (aD 1) aG) (aD 3)) aG)))))) (fO (gB (aK dE (aB (aD 4) (aB (aD 3) (aB (fC (.int 0)) aG)))))))
  (bK (fC (.bool false)))
  bC)
 (aO (aZ (aK eR (aB (aD 4) (aB (fC (.int 0)) aG))) (hName 5))
 (aO (kW (cZ (aB (fOp sE (aD 3) (fC (.int 1))) aG)) (hName 6) rW)
 (aO (aZ (fOp ixF (fP (aB (fC (.bool true)) (aB (fC (.bool false)) (aB (fC .none) (aB (fC (.str "0")) (aB (fUn yD (fC (.int 1))) (aB (aD 3) (aB (fOp CB (fC (.int 10)) (fC (.int 30))) (aB HH (aB wL (aB (fC (.int 0)) aG))))))))))) (fOp gN (bU "list" jD (aD 1) aG) (fC (.int 10)))) (hName 9))
 (aO (aZ vJ (hName 10))
 (aO (sIf (kZ (gB (kM "int" (aD 9))) (kZ (fO (gB (kM "bool" (aD 9)))) (kZ (gB (fOp (eqX false) (aD 9) (fC (.int 0)))) (gB (fOp gtI (aD 3) (fC (.int 1)))))))
  (aZ HA (hName 10))
  bC)
 (aO (sIf (gB (fOp (eqX true) (bX (aK aS (aB (aD 4) (aB (aD 9) (aB (fC (.int 0)) aG))))) (aD 10)))
  (bK (fC (.bool false)))
  bC)
 (aO (sIf (gB (fOp (eqX true) (bX (aK aS (aB (aD 4) (aB (aD 3) (aB (fC (.int 0)) aG))))) uP))
  (bK (fC (.bool false)))
  bC)
 (aO (sIf (gB (fOp (eqX true) (bX (aK aS (aB (aD 4) (aB (fOp sE (aD 3) (fC (.int 1))) (aB (fC (.int 0)) aG))))) (fP (aB (fOp sI (fC (.int 2)) (aK lM (aB (fOp (eqX false) (aD 3) (fC (.int 1))) aG))) (aB (fC (.int 2)) aG)))))
  (bK (fC (.bool false)))
  bC)
 (aO (aZ (aK bM (aB (aD 4) (aB (bU "list" jD (aD 1) aG) (aB (aD 3) aG)))) (hName 11))
 (aO (aZ (fOr (wI (aK dA (aB (aD 11) aG))) (wI (aK bP (aB (fOp cC (aK eF (aB (aD 11) aG)) (fC (.int 1))) (aB (aD 11) aG))))) (hName 12))
 (aO (sIf (kZ (nA (aD 12)) (gB (fOp (eqX true) (bX (aK aS (aB (aD 11) (aB (fC (.int 0)) (aB (fC (.int 1)) aG))))) pT)))
  (bK (fC (.bool false)))
  bC)
 (sIf (kZ (nA (aD 12)) (gB (fOp (eqX true) (bX (aK aS (aB (aD 11) (aB (fC .none) (aB (fC (.str "x")) aG))))) qJ)))
  (bK (fC (.bool false)))
  bC)))))))))))))))
noncomputable def aAA:SF:=(aO (aZ (aK lU (aB (aD 0) (aB (fC (.int 110)) aG))) (hName 1))
 (aO (sIf (gB (fOp (eqX true) (bX (aK aS (aB (aK dN (aB yT aG)) (aB (fC (.int 0)) (aB (fC (.int 1)) aG))))) HC))
  (bK (fC (.bool false)))
  bC)
 (aO (sIf (gOr (gB (fOp (eqX true) (iM cV (aB HX (aB (fC (.int 1)) (aB (fC (.int 0)) aG)))) HP)) (gB (fOp (eqX true) (iM bQ (aB FY (aB (fC (.int 0)) aG))) FC)))
  (bK (fC (.bool false)))
  bC)
 (aO (kW (cZ (aB (fC (.int 3)) aG)) (hName 2) vC)
 (bK (fC (.bool true)))))))
noncomputable def F_law:FN:=fnF 1 13 aAA
structure Txt(K:Fg)(mg:Str->Option Value):Prop where
 hB:RF mg ["ValueError","all","bool","enumerate","int","isinstance","len","list","range","sorted","tuple","zip"]
 v82:∃t:Tok,mg "MOST_PLACES"=some (.int 40 t)
 v77:mg "NoPlace"=some (.ref (dD K "NoPlace"))
 v14:PySem.W.excIn K (dD K "NoPlace") bmV "ValueError.__new__"=true
 v78:mg "NoTree"=some (.ref (dD K "NoTree"))
 v16:PySem.W.excIn K (dD K "NoTree") bmV "ValueError.__new__"=true
 v17:PySem.W.exmOne K (.ref (dD K "NoTree")) (.ref (dD K "NoPlace"))=some false
 v18:PySem.W.exmOne K (.ref (dD K "NoPlace")) (.ref (dD K "NoPlace"))=some true
 v79:XC K (dD K "NoPlace")
 v80:XC K (dD K "NoTree")
 v35:BO K (.type "ValueError") dU=true
 v36:PySem.W.kitOne K (.type "NoneType") (.type "ValueError")=some false
 v81:mg "CutError"=some (.ref (dD K "CutError"))
 v38:BO K (.ref (dD K "CutError")) fH=true
 v39:PySem.W.kitOne K (.type "NoneType") (.ref (dD K "CutError"))=some false
 v40:PySem.W.exmOne K (.ref (dD K "NoTree")) (.ref (dD K "NoTree"))=some true
 v41:PySem.W.exmOne K (.ref (dD K "NoPlace")) (.ref (dD K "NoTree"))=some false
 v42:BO K (.ref (dD K "NoPlace")) kP=true
 v43:PySem.W.kitOne K (.type "NoneType") (.ref (dD K "NoPlace"))=some false
 v44:Def K mg "_law_deck" oG
 v45:Def K mg "is_row" wF
 v46:Def K mg "is_row_of" oM
 v47:Def K mg "common" vX
 v48:Def K mg "is_whole" qV
 v49:Def K mg "has_amount_numbers" fS
 v50:Def K mg "is_amount" oW
 v51:Def K mg "is_place" rK
 v52:Def K mg "are_unlike_places" gF
 v53:Def K mg "is_between_places" fZ
 v54:Def K mg "rows_beside" iD
 v55:Def K mg "steps_from" mP
 v56:Def K mg "is_rising" kC
 v57:Def K mg "is_tree" lE
 v58:Def K mg "refuse_no_tree" iA
 v59:Def K mg "refuse_no_two_places" fD
 v60:Def K mg "tree_way" lW
 v61:Def K mg "side_behind" kQ
 v62:Def K mg "tree_side" oV
 v63:Def K mg "_law_refused" jO
 v64:Def K mg "_law_amount" lS
 v65:Def K mg "_law_drawn" mM
 v66:Def K mg "_law_ways" oA
 v67:Def K mg "_law_lists" iX
 v68:Def K mg "_law_right" mY
 v69:Def K mg "_law_odd" qD
 v70:Def K mg "_law_bent" oI
 v71:Def K mg "_law_is_row" lN
 v72:Def K mg "_law_is_whole" iN
 v73:Def K mg "_law_lowest" kO
 v74:Def K mg "_law_is_amount" iF
 v75:Def K mg "_law_is_tree" gV
 v76:Def K mg "law" zA
section
variable{P:Program}{w:World}{K:Fg}{mg:Str->Option Value}{base:Heap}
theorem vD(T:Txt K mg):∀nm∈(["NoPlace","NoTree"]:List Str),XC K (dD K nm):=(IS T.v79 (IS T.v80 aCp))
theorem FK(T:Txt K mg):Callee P w K mg base 1 "_law_deck" qX (spM K lU):=
 T.v44.okG (N:=xG) (ps:=qX) (k:=0) (b:=mG) sc__law_deck (by sleep 992) fun f cdv A outer s H E hr=>
  (aJ (bB 2 (fun _=>sc__law_deck.nd) (dY (aBg (fun _=>rfl)) (fun _=>T.hB.of "list") boot_list (aA (aC 0) aF)))
   (aJ (cX (bS (aJa (fun _=>rfl) (fun _=>hr.units)) (aC 2) (eW aF))
    (aM (bB 2 (fun _=>sc__law_deck.nd) (oU (aA aE aF))))
    bR)
   (aJ (bB 3 (fun _=>sc__law_deck.nd) (aT hV (bD cB (aC 2) aE) aE))
   (aJ (yY (aT mQ (bD cB (aC 2) aE) aE) (aAP aDN (aC 2) aE))
   (aJ (bB 4 (fun _=>sc__law_deck.nd) (oU aF))
   (aJ (jR (fun _=>E3) (fun _=>rfl) (iU (fun _=>T.hB.of "range") (aA (aC 1) aF)) (bH 5 (fun _=>sc__law_deck.nd))
    (aJ (bB 6 (fun _=>sc__law_deck.nd) (aT hV (aC 5) (cN lY (fun _=>T.hB.of "len") Y1 (aA (aC 2) aF))))
   (aJ (bB 7 (fun _=>sc__law_deck.nd) (aT hV (bD cB (aC 2) (aC 6)) aE))
   (aJ (cX (bS (mL (fun _=>rfl) (fun _=>hr.units)) (aC 3) aE)
    (aJ (bB 7 (fun _=>sc__law_deck.nd) (aT hV (aT dM (aT dM (bD cB (aC 2) (aC 6)) (aT uS (aT uS (aC 5) (aC 5)) aE)) (aT uS aE (aC 5))) aE))
   (aJ (bB 7 (fun _=>sc__law_deck.nd) (aT hV (aT dM (aT uS (aC 7) (bD cB (eW (aA aE (aA aE (aA aE (aA aE aF))))) (aT hV (aC 5) aE))) aE) aE))
   (aM (bB 7 (fun _=>sc__law_deck.nd) (aT hV (aT uS (aC 7) (aC 7)) aE)))))
    (aM (yY (aT mQ (bD cB (aC 2) (aC 6)) aE) (aAP aDN (aC 2) (aC 6)))))
   (aM (jA (gL (fun _=>rfl) (aC 4) (aA (aC 7) aF))))))))
   (aJ (jA (NU (fun _=>rfl) (aC 4)))
   (aM (aW (aC 4))))))))))
theorem ET(T:Txt K mg):Callee P w K mg base 1 "is_row" zM (spM K uU):=
 T.v45.okG (N:=IR) (ps:=zM) (k:=0) (b:=LK) TH (by sleep 991) fun f cdv A outer s H E hr=>
  (aM (aW (OG (T:="list") (U:="tuple") (fun _=>rfl) (by decide) (by decide) (aC 0) (fun _=>bN) (fun _=>T.hB.of "isinstance") (fun _=>T.hB.of "list") (fun _=>T.hB.of "tuple") boot_list S6)))
theorem oJ(T:Txt K mg):Callee P w K mg base 2 "is_row_of" pR (spM K jG):=
 T.v46.okG (N:=xB) (ps:=pR) (k:=1) (b:=xN) HG (by sleep 992) fun f cdv A outer s H E hr=>
  (aM (aW (gO (aR (fun _=>ET T) hr.le (aA (aC 0) aF)) (iB (jU (mL (fun _=>rfl) (fun _=>hr.units)) (cN lY (fun _=>T.hB.of "len") Y1 (aA (aC 0) aF)) (aC 1))))))
theorem TQ(T:Txt K mg):Callee P w K mg base 1 "common" BV (spM K AB):=
 T.v47.okG (N:=IL) (ps:=BV) (k:=0) (b:=LG) sc_common (by sleep 992) fun f cdv A outer s H E hr=>
  (aJ (uQ (fun _=>E3) (FS (fun _=>rfl) (aC 1)) (aM (NV 0 1 (fun _=>rfl) (fun _=>sc_common.nd) (aA (aC 1) (aA (aT hV (aC 0) (aC 1)) aF)))))
   (aM (aW (aC 0))))
theorem pZ(T:Txt K mg):Callee P w K mg base 1 "is_whole" tR (spM K lI):=
 T.v48.okG (N:=zQ) (ps:=tR) (k:=0) (b:=yZ) JH (by sleep 991) fun f cdv A outer s H E hr=>
  (aM (aW (gO (oZ (T:="int") (fun _=>rfl) (by decide) (aC 0) (fun _=>bN) (fun _=>T.hB.of "isinstance") (fun _=>T.hB.of "int") boot_int) (iB (GO (oZ (T:="bool") (fun _=>rfl) (by decide) (aC 0) (fun _=>bN) (fun _=>T.hB.of "isinstance") (fun _=>T.hB.of "bool") boot_bool))))))
theorem pM(T:Txt K mg):Callee P w K mg base 3 "has_amount_numbers" gH (spM K cD):=
 T.v49.okG (N:=jJ) (ps:=gH) (k:=2) (b:=dH) pO (by sleep 991) fun f cdv A outer s H E hr=>
  (aJ (cX (oX (iC (dZ (dR (aR (fun _=>oJ T) hr.le (aA (aC 0) (aA aE aF))))) (iC (dZ (dR (aR (fun _=>pZ T) hr.le (aA (bD cB (aC 0) aE) aF)))) (iH (dZ (dR (aR (fun _=>pZ T) hr.le (aA (bD cB (aC 0) aE) aF))))))))
   (aM (aW eC))
   bR)
   (aM (aW (gO (jU aGR (bD cB (aC 0) aE) aE) (iB (jU aGR (bD cB (aC 0) aE) aE))))))
theorem GJ(T:Txt K mg):Callee P w K mg base 4 "is_amount" qM (spM K fY):=
 T.v50.okG (N:=xR) (ps:=qM) (k:=3) (b:=jN) FW (by sleep 991) fun f cdv A outer s H E hr=>
  (aM (aW (gO (aR (fun _=>pM T) hr.le (aA (aC 0) aF)) (iB (jU (mL (fun _=>rfl) (fun _=>hr.units)) (aR (fun _=>TQ T) hr.le (aA (bD cB (aC 0) aE) (aA (bD cB (aC 0) aE) aF))) aE)))))
theorem qR(T:Txt K mg):Callee P w K mg base 2 "is_place" tT (spM K gE):=
 T.v51.okG (N:=BJ) (ps:=tT) (k:=1) (b:=nW) IJ (by sleep 992) fun f cdv A outer s H E hr=>
  (aM (aW (gO (aR (fun _=>pZ T) hr.le (aA (aC 1) aF)) (iB (LA aGx aIW aE (aC 1) (aC 0))))))
theorem jM(T:Txt K mg):Callee P w K mg base 3 "are_unlike_places" gR (spM K bJ):=
 T.v52.okG (N:=jX) (ps:=gR) (k:=2) (b:=dO) rE (by sleep 993) fun f cdv A outer s H E hr=>
  (aM (aW (gO (aR (fun _=>qR T) hr.le (aA (aC 0) (aA (aC 1) aF))) (gO (aR (fun _=>qR T) hr.le (aA (aC 0) (aA (aC 2) aF))) (iB (jU (qW (fun _=>rfl) (fun _=>hr.units)) (aC 1) (aC 2)))))))
theorem qY(T:Txt K mg):Callee P w K mg base 4 "is_between_places" gQ (spM K bG):=
 T.v53.okG (N:=jY) (ps:=gQ) (k:=3) (b:=cO) qA (by sleep 992) fun f cdv A outer s H E hr=>
  (aM (aW (gO (aR (fun _=>oJ T) hr.le (aA (aC 1) (aA aE aF))) (gO (aR (fun _=>jM T) hr.le (aA (aC 0) (aA (bD cB (aC 1) aE) (aA (bD cB (aC 1) aE) aF)))) (iB (jU aIW (bD cB (aC 1) aE) (bD cB (aC 1) aE)))))))
theorem BQ(T:Txt K mg):Callee P w K mg base 1 "rows_beside" nF (spM K iZ):=
 T.v54.okG (N:=mX) (ps:=nF) (k:=0) (b:=mT) sc_rows_beside (by sleep 991) fun f cdv A outer s H E hr=>
  (aJ (UK 1 (fun _=>sc_rows_beside.nd) (N':=(["place"]:List Str)) (cap:=[none]) (fun _=>rfl) (fun _=>kH (sc0:=aI iD) (N:=mX) rfl rfl (by decide +kernel)) (iU (fun _=>T.hB.of "range") (aA (aT dM (cN lY (fun _=>T.hB.of "len") Y1 (aA (aC 0) aF)) aE) aF)) (bH 0 (fun _=>(show(["place"]:List Str).Nodup by decide +kernel))) qU (oU aF))
   (aJ (jR (fun _=>E3) (fun _=>rfl) (aCk (fun _=>rfl) (fun _=>T.hB.of "enumerate") (aA (aC 0) aF)) (qQ (fun _=>rfl) (fun _=>rfl) (cK (bH 2 (fun _=>sc_rows_beside.nd)) (cK (bH 3 (fun _=>sc_rows_beside.nd)) mB)))
    (aJ (jA (gL (fun _=>rfl) (bD cB (aC 1) (bD cB (aC 3) aE)) (aA (aP (aA (bD cB (aC 3) aE) (aA (aC 2) aF))) aF)))
   (aM (jA (gL (fun _=>rfl) (bD cB (aC 1) (bD cB (aC 3) aE)) (aA (aP (aA (bD cB (aC 3) aE) (aA (aC 2) aF))) aF))))))
   (aM (aW (aC 1)))))
theorem mK(T:Txt K mg):Callee P w K mg base 2 "steps_from" oB (spM K eP):=
 T.v55.okG (N:=uC) (ps:=oB) (k:=1) (b:=oQ) sc_steps_from (by sleep 992) fun f cdv A outer s H E hr=>
  (aJ (bB 2 (fun _=>sc_steps_from.nd) (aR (fun _=>BQ T) hr.le (aA (aC 0) aF)))
   (aJ (bB 3 (fun _=>sc_steps_from.nd) (JB (PB (aC 1) eC XY)))
   (aJ (bB 4 (fun _=>sc_steps_from.nd) (oU (aA (aC 1) aF)))
   (aJ (bB 5 (fun _=>sc_steps_from.nd) (oU aF))
   (aJ (uQ (fun _=>E3) (FS (fun _=>rfl) (aC 4)) (aJ (bB 6 (fun _=>sc_steps_from.nd) (vV (fun _=>rfl) (aC 4)))
   (aM (aCi (fun _=>E3) (fun _=>rfl) (fun _=>rfl) (bD cB (aC 2) (aC 6)) (qQ (fun _=>rfl) (fun _=>rfl) (cK (bH 7 (fun _=>sc_steps_from.nd)) (cK (bH 8 (fun _=>sc_steps_from.nd)) mB)))
    (aM (cX (wA (fun _=>hr.u1) (mk_one (aC 7)) (aC 3))
    (aJ (yV (fun _=>hr.u1) (aC 3) (mk_one (aC 7)) eC)
   (aJ (jA (gL (fun _=>rfl) (aC 4) (aA (aC 7) aF)))
   (aM (jA (gL (fun _=>rfl) (aC 5) (aA (aP (aA (aC 6) (aA (aC 7) (aA (aC 8) aF)))) aF))))))
    bR))))))
   (aM (aW (aC 5))))))))
theorem HL(T:Txt K mg):Callee P w K mg base 1 "is_rising" rJ (spM K mC):=
 T.v56.okG (N:=qN) (ps:=rJ) (k:=0) (b:=qL) GV (by sleep 991) fun f cdv A outer s H E hr=>
  (aM (aW (cN (aDt (fun _=>rfl) (fun _=>rfl)) (fun _=>T.hB.of "all") boot_all (aA (AW (N':=(["one","other"]:List Str)) (cap:=[none,none]) (fun _=>rfl) (fun _=>kH (sc0:=aI kC) (N:=qN) rfl rfl (by decide +kernel)) (aEm (fun _=>rfl) (fun _=>T.hB.of "zip") (aA (aC 0) (aA (lQ (fun _=>rfl) (aC 0) (eM aE) fX) aF))) (qQ (fun _=>rfl) (fun _=>rfl) (cK (bH 0 (fun _=>(show(["one","other"]:List Str).Nodup by decide +kernel))) (cK (bH 1 (fun _=>(show(["one","other"]:List Str).Nodup by decide +kernel))) mB))) qU (jU (aDK (fun _=>rfl) (fun _=>hr.units1)) (aC 0) (aC 1))) aF))))
theorem NP(T:Txt K mg):Callee P w K mg base 5 "is_tree" vY (spM K dX):=
 T.v57.okG (N:=rV) (ps:=vY) (k:=4) (b:=hW) NJ (by sleep 992) fun f cdv A outer s H E hr=>
  (aJ (cX (oX (iC (bS aEB (aC 0) (aAR (fun _=>T.v82))) (iH (dZ (dR (aR (fun _=>oJ T) hr.le (aA (aC 1) (aA (aT AA (aC 0) aE) aF))))))))
   (aM (aW eC))
   bR)
   (aJ (cX (dZ (dR (cN (aDt (fun _=>rfl) (fun _=>rfl)) (fun _=>T.hB.of "all") boot_all (aA (AW (N':=(["many","row"]:List Str)) (cap:=[some 0,none]) (fun _=>rfl) (fun _=>kH (sc0:=aI lE) (N:=rV) rfl rfl (by decide +kernel)) (rH (fun _=>rfl) (aC 1)) (bH 1 (fun _=>(show(["many","row"]:List Str).Nodup by decide +kernel))) qU (gO (aR (fun _=>qY T) hr.le (aA (aC 0) (aA (aC 1) aF))) (iB (aR (fun _=>GJ T) hr.le (aA (bD cB (aC 1) aE) aF))))) aF))))
    (aM (aW eC))
    bR)
   (aM (aW (gO (aR (fun _=>HL T) hr.le (aA (AW (N':=(["row"]:List Str)) (cap:=[none]) (fun _=>rfl) (fun _=>kH (sc0:=aI lE) (N:=rV) rfl rfl (by decide +kernel)) (rH (fun _=>rfl) (aC 1)) (bH 0 (fun _=>(show(["row"]:List Str).Nodup by decide +kernel))) qU (aP (aA (bD cB (aC 0) aE) (aA (bD cB (aC 0) aE) aF)))) aF)) (iB (jU (mL (fun _=>rfl) (fun _=>hr.units)) (cN lY (fun _=>T.hB.of "len") Y1 (aA (aR (fun _=>mK T) hr.le (aA (aC 1) (aA aE aF))) aF)) (aT AA (aC 0) aE))))))))
theorem mH(T:Txt K mg):kG P w K mg base 6 "refuse_no_tree" iQ (spX K cE):=
 T.v58.okX (N:=nT) (ps:=iQ) (k:=5) (b:=eZ) uH (by sleep 991) fun f cdv A outer s H E hr=>
  (lZ (HZ (oX (iC (dZ (dR (aR (fun _=>ET T) hr.le (aA (aC 0) aF)))) (iH (dZ (dR (aR (fun _=>NP T) hr.le (aA (aT dM (cN lY (fun _=>T.hB.of "len") Y1 (aA (aC 0) aF)) aE) (aA (aC 0) aF))))))))
   (lZ (tS (fun i=>zB i) (fun _=>rfl) (fun _=>rfl) (fun _=>T.v78) T.v16))
   (AY bR)))
theorem nQ(T:Txt K mg):kG P w K mg base 4 "refuse_no_two_places" fJ (spX K cL):=
 T.v59.okX (N:=iJ) (ps:=fJ) (k:=3) (b:=dP) nK (by sleep 993) fun f cdv A outer s H E hr=>
  (lZ (HZ (dZ (dR (aR (fun _=>jM T) hr.le (aA (aC 0) (aA (aC 1) (aA (aC 2) aF))))))
   (lZ (tS (fun i=>zB i) (fun _=>rfl) (fun _=>rfl) (fun _=>T.v77) T.v14))
   (AY bR)))
theorem qB(T:Txt K mg):kG P w K mg base 7 "tree_way" sZ (spX K cV):=
 T.v60.okX (N:=tK) (ps:=sZ) (k:=6) (b:=lJ) sc_tree_way (by sleep 993) fun f cdv A outer s H E hr=>
  (uA (qC (uX (fun i=>zB i) (fun _=>mH T) hr.le (zS (aA (aC 0) aF))))
   (uA (qC (uX (fun i=>zB i) (fun _=>nQ T) hr.le (zS (aA (aT dM (cN lY (fun _=>T.hB.of "len") Y1 (aA (aC 0) aF)) aE) (aA (aC 1) (aA (aC 2) aF))))))
   (AY (aJ (QY 3 (fun _=>sc_tree_way.nd) (N':=(["here","there","at"]:List Str)) (cap:=[none,none,none]) (fun _=>hr.u0) (fun _=>rfl) (fun _=>kH (sc0:=aI lW) (N:=tK) rfl rfl (by decide +kernel)) (rH (fun _=>rfl) (hJ (aR (fun _=>mK T) hr.le (aA (aC 0) (aA (aC 2) aF))))) (qQ (fun _=>rfl) (fun _=>rfl) (cK (bH 0 (fun _=>(show(["here","there","at"]:List Str).Nodup by decide +kernel))) (cK (bH 1 (fun _=>(show(["here","there","at"]:List Str).Nodup by decide +kernel))) (cK (bH 2 (fun _=>(show(["here","there","at"]:List Str).Nodup by decide +kernel))) mB)))) qU (mk_one (aC 1)) (aP (aA (aC 0) (aA (aC 2) aF))))
   (aJ (bB 4 (fun _=>sc_tree_way.nd) (oU aF))
   (aJ (bB 5 (fun _=>sc_tree_way.nd) (aC 1))
   (aJ (uQ (fun i=>((fun i=>zB i) i).own) (bS (qW (fun _=>rfl) (fun _=>hr.units)) (aC 5) (aC 2)) (aJ (yY (uF (fun _=>hr.u1) (aC 3) (mk_one (aC 5))) (qQ (fun _=>rfl) (fun _=>rfl) (cK (bH 5 (fun _=>sc_tree_way.nd)) (cK (bH 6 (fun _=>sc_tree_way.nd)) mB))))
   (aM (jA (gL (fun _=>rfl) (aC 4) (aA (aC 6) aF))))))
   (aM (aW (dY (kJ (fun _=>rfl)) (fun _=>T.hB.of "tuple") S6 (aA (aC 4) aF)))))))))))
theorem zX(T:Txt K mg):Callee P w K mg base 3 "side_behind" nG (spM K mU):=
 T.v61.okG (N:=sQ) (ps:=nG) (k:=2) (b:=mS) sc_side_behind (by sleep 992) fun f cdv A outer s H E hr=>
  (aJ (bB 2 (fun _=>sc_side_behind.nd) VP)
   (aJ (jR (fun _=>E3) (fun _=>rfl) (rH (fun _=>rfl) (hJ (aR (fun _=>mK T) hr.le (aA (aC 0) (aA aE aF))))) (qQ (fun _=>rfl) (fun _=>rfl) (cK (bH 3 (fun _=>sc_side_behind.nd)) (cK (bH 4 (fun _=>sc_side_behind.nd)) (cK (bH 5 (fun _=>sc_side_behind.nd)) mB))))
    (aM (cX (oX (iC (bS (mL (fun _=>rfl) (fun _=>hr.units)) (aC 5) (aC 1)) (iH (MY (fun _=>hr.u1) (mk_one (aC 3)) (aC 2)))))
    (aM (yV (fun _=>hr.u1) (aC 2) (mk_one (aC 4)) eC))
    bR)))
   (aM (aW (dY (kJ (fun _=>rfl)) (fun _=>T.hB.of "tuple") S6 (aA (cN (WQ (fun _=>rfl)) (fun _=>T.hB.of "sorted") boot_sorted (aA (aC 2) aF)) aF))))))
theorem jZ(T:Txt K mg):kG P w K mg base 7 "tree_side" qG (spX K bQ):=
 T.v62.okX (N:=xK) (ps:=qG) (k:=6) (b:=jI) IB (by sleep 992) fun f cdv A outer s H E hr=>
  (uA (qC (uX (fun i=>zB i) (fun _=>mH T) hr.le (zS (aA (aC 0) aF))))
   (uA (HZ (dZ (dR (aR (fun _=>qR T) hr.le (aA (cN lY (fun _=>T.hB.of "len") Y1 (aA (aC 0) aF)) (aA (aC 1) aF)))))
    (lZ (tS (fun i=>zB i) (fun _=>rfl) (fun _=>rfl) (fun _=>T.v77) T.v14))
    (AY bR))
   (AY (aM (aW (aR (fun _=>zX T) hr.le (aA (aC 0) (aA (aC 1) aF))))))))
theorem eI(T:Txt K mg):Callee P w K mg base 8 "_law_refused" lA (spM K aS):=
 T.v63.okG (N:=qZ) (ps:=lA) (k:=7) (b:=lH) sc__law_refused (by sleep 993) fun f cdv A outer s H E hr=>
  (aJ (bB 3 (fun _=>sc__law_refused.nd) (oU aF))
   (aJ (jR (fun _=>E3) (fun _=>rfl) (iU (fun _=>T.hB.of "range") (aA aE aF)) (bH 4 (fun _=>sc__law_refused.nd))
    (aJ (bB 5 (fun _=>sc__law_refused.nd) aE)
   (aJ (aGi (fun _=>⟨rfl,rfl,rfl⟩) (fun _=>rfl) (lZ (HZ (bS (mL (fun _=>rfl) (fun _=>hr.units)) (aC 4) aE)
    (lZ (qC (uX (fun i=>aDn (fun _=>⟨rfl,rfl,rfl⟩) i) (fun _=>qB T) hr.le (zS (aA (aC 0) (aA (aC 1) (aA (aC 2) aF)))))))
    (lZ (qC (uX (fun i=>aDn (fun _=>⟨rfl,rfl,rfl⟩) i) (fun _=>jZ T) hr.le (zS (aA (aC 0) (aA (aC 1) aF)))))))) (PY (tab:=[("NoPlace",false),("NoTree",true)]) (n:=(some 6)) (.ref (dD K "NoTree")) (fun _=>⟨rfl,rfl,rfl⟩) (fun _=>.inl T.v78) (fun _=>⟨sc__law_refused.nd,rfl,rfl⟩) (rQ T.v41 (rQ T.v40 JG)) (aJ (bB 5 (fun _=>sc__law_refused.nd) (dY IM (fun _=>T.hB.of "int") boot_int (aA (gO (uZ (tab:=fH) (nn:=some false) (c:=(.ref (dD K "CutError"))) (fun _=>rfl) (.own _) (NZ (fun _=>T.v81)) (vM (vD T) T.v38 rfl) (vK T.v39) (aC 6) (fun _=>bN) (fun _=>T.hB.of "isinstance")) (iB (uZ (tab:=dU) (nn:=some false) (c:=(.type "ValueError")) (fun _=>rfl) (.ty _) (aDE (fun _=>T.hB.of "ValueError") pF) (vM (vD T) T.v35 rfl) (vK T.v36) (aC 6) (fun _=>bN) (fun _=>T.hB.of "isinstance")))) aF)))
   (aM (cX (dR (uZ (tab:=kP) (nn:=some false) (c:=(.ref (dD K "NoPlace"))) (fun _=>rfl) (.own _) (NZ (fun _=>T.v77)) (vM (vD T) T.v42 rfl) (vK T.v43) (aC 6) (fun _=>bN) (fun _=>T.hB.of "isinstance")))
    (aM (bB 5 (fun _=>sc__law_refused.nd) aE))
    bR)))
   (PY (tab:=[("NoPlace",true),("NoTree",false)]) (n:=(some 6)) (.ref (dD K "NoPlace")) (fun _=>⟨rfl,rfl,rfl⟩) (fun _=>.inl T.v77) (fun _=>⟨sc__law_refused.nd,rfl,rfl⟩) (rQ T.v18 (rQ T.v17 JG)) (aM (bB 5 (fun _=>sc__law_refused.nd) (aT uS aE (dY IM (fun _=>T.hB.of "int") boot_int (aA (gO (uZ (tab:=fH) (nn:=some false) (c:=(.ref (dD K "CutError"))) (fun _=>rfl) (.own _) (NZ (fun _=>T.v81)) (vM (vD T) T.v38 rfl) (vK T.v39) (aC 6) (fun _=>bN) (fun _=>T.hB.of "isinstance")) (iB (uZ (tab:=dU) (nn:=some false) (c:=(.type "ValueError")) (fun _=>rfl) (.ty _) (aDE (fun _=>T.hB.of "ValueError") pF) (vM (vD T) T.v35 rfl) (vK T.v36) (aC 6) (fun _=>bN) (fun _=>T.hB.of "isinstance")))) aF)))))
   aEA)))
   (aM (jA (gL (fun _=>rfl) (aC 3) (aA (aC 5) aF)))))))
   (aM (aW (aC 3)))))
theorem BD(T:Txt K mg):Callee P w K mg base 1 "_law_amount" mO (spM K iY):=
 T.v64.okG (N:=sR) (ps:=mO) (k:=0) (b:=mZ) sc__law_amount (by sleep 991) fun f cdv A outer s H E hr=>
  (aJ (bB 1 (fun _=>sc__law_amount.nd) (eW (aA (aP (aA aE (aA aE aF))) (aA (aP (aA aE (aA aE aF))) (aA (aP (aA aE (aA aE aF))) (aA (aP (aA aE (aA aE aF))) (aA (aP (aA aE (aA aE aF))) (aA (aP (aA aE (aA aE aF))) (aA (aP (aA (aT KO aE aE) (aA aE aF))) (aA (aP (aA aE (aA (aT dM (aT KO aE aE) aE) aF))) aF))))))))))
   (aM (aW (bD cB (aC 1) (aT hV (aC 0) aE)))))
theorem CN(T:Txt K mg):Callee P w K mg base 2 "_law_drawn" oF (spM K gJ):=
 T.v65.okG (N:=vE) (ps:=oF) (k:=1) (b:=nZ) sc__law_drawn (by sleep 992) fun f cdv A outer s H E hr=>
  (aJ (bB 2 (fun _=>sc__law_drawn.nd) (oU aF))
   (aJ (jR (fun _=>E3) (fun _=>rfl) (aBV (fun _=>T.hB.of "range") (aA aE (aA (aC 1) aF))) (bH 3 (fun _=>sc__law_drawn.nd))
    (aJ (bB 4 (fun _=>sc__law_drawn.nd) (vV (fun _=>rfl) (aC 0)))
   (aM (jA (gL (fun _=>rfl) (aC 2) (aA (aP (aA (aT hV (aC 4) (aC 3)) (aA (aC 3) (aA (aR (fun _=>BD T) hr.le (aA (aT mQ (aC 4) aE) aF)) aF)))) aF))))))
   (aM (aW (dY (kJ (fun _=>rfl)) (fun _=>T.hB.of "tuple") S6 (aA (cN (aBp (fun _=>rfl) (fun _=>hr.units2)) (fun _=>T.hB.of "sorted") boot_sorted (aA (aC 2) aF)) aF))))))
theorem uJ(T:Txt K mg):Callee P w K mg base 1 "_law_ways" rA (spM K eR):=
 T.v66.okG (N:=xJ) (ps:=rA) (k:=0) (b:=qF) sc__law_ways (by sleep 992) fun f cdv A outer s H E hr=>
  (aJ (bB 2 (fun _=>sc__law_ways.nd) (JB (PB (aC 1) (aP aF) XY)))
   (aJ (jR (fun _=>E3) (fun _=>rfl) (iU (fun _=>T.hB.of "range") (aA (cN lY (fun _=>T.hB.of "len") Y1 (aA (aC 0) aF)) aF)) (bH 3 (fun _=>sc__law_ways.nd))
    (aM (jR (fun _=>E3) (fun _=>rfl) (iU (fun _=>T.hB.of "range") (aA (cN lY (fun _=>T.hB.of "len") Y1 (aA (aC 0) aF)) aF)) (bH 4 (fun _=>sc__law_ways.nd))
    (aJ (yY (lQ (fun _=>rfl) (bD cB (aC 0) (aC 4)) fX (eM aE)) (qQ (fun _=>rfl) (fun _=>rfl) (cK (bH 5 (fun _=>sc__law_ways.nd)) (cK (bH 6 (fun _=>sc__law_ways.nd)) mB))))
   (aM (cX (oX (tX (MY (fun _=>hr.u1) (mk_one (aC 5)) (aC 2)) (uW (wA (fun _=>hr.u1) (mk_one (aC 6)) (aC 2)))))
    (aM (yV (fun _=>hr.u1) (aC 2) (mk_one (aC 6)) (aT dM (uF (fun _=>hr.u1) (aC 2) (mk_one (aC 5))) (aP (aA (aC 4) aF)))))
    (aM (cX (oX (tX (MY (fun _=>hr.u1) (mk_one (aC 6)) (aC 2)) (uW (wA (fun _=>hr.u1) (mk_one (aC 5)) (aC 2)))))
    (aM (yV (fun _=>hr.u1) (aC 2) (mk_one (aC 5)) (aT dM (uF (fun _=>hr.u1) (aC 2) (mk_one (aC 6))) (aP (aA (aC 4) aF)))))
    bR))))))))
   (aM (aW (aC 2)))))
theorem nD(T:Txt K mg):∀n:Nat,Callee P w K mg base (n+1) "_law_lists" kE (spM K (bO n))
 |0=>(T.v67.okNone (N:=kB) (ps:=kE) (k:=0) sW (by intro _ _ _ _ _ _ _ hl;apply ar1 hl;intros;rfl)).mono (by decide)
 |n+1=>(T.v67.okG (N:=kB) (ps:=kE) (k:=n+1) (b:=kI (bO n)) sW (by sleep 991) fun f cdv A outer s H E hr=>
  (aJ (cX (dZ (dR (oZ (T:="tuple") (fun _=>rfl) (by decide) (aC 0) (fun _=>bN) (fun _=>T.hB.of "isinstance") (fun _=>T.hB.of "tuple") S6)))
   (aM (aW (aC 0)))
   bR)
   (aM (aW (AW (N':=(["_law_part"]:List Str)) (cap:=[none]) (fun _=>rfl) (fun _=>kH (sc0:=aI iX) (N:=kB) rfl rfl (by decide +kernel)) (rH (fun _=>rfl) (aC 0)) (bH 0 (fun _=>(show(["_law_part"]:List Str).Nodup by decide +kernel))) qU (aR (fun _=>nD T n) (fun _=>hr.mono (by omega)) (aA (aC 0) aF))))))).mono (by omega)
theorem sN(T:Txt K mg):Callee P w K mg base 8 "_law_right" oY (spM K dE):=
 T.v68.okG (N:=uV) (ps:=oY) (k:=7) (b:=oP) sc__law_right (by sleep 993) fun f cdv A outer s H E hr=>
  (aJ (bB 3 (fun _=>sc__law_right.nd) (aR (fun _=>uJ T) hr.le (aA (aC 0) (aA (aC 2) aF))))
   (aJ (jR (fun _=>E3) (fun _=>rfl) (iU (fun _=>T.hB.of "range") (aA (aC 1) aF)) (bH 4 (fun _=>sc__law_right.nd))
    (aM (cX (bS (qW (fun _=>rfl) (fun _=>hr.units)) (aC 4) (aC 2))
    (aM (jR (fun _=>E3) (fun _=>rfl) (rH (fun _=>rfl) (eW (aA (aC 0) (aA (aR (fun _=>nD T 6) hr.le (aA (aC 0) aF)) aF)))) (bH 5 (fun _=>sc__law_right.nd))
    (aJ (bB 6 (fun _=>sc__law_right.nd) (nU (fun _=>qB T) hr.le (aA (aC 5) (aA (aC 2) (aA (aC 4) aF)))))
   (aM (cX (oX (iC (dZ (dR (oZ (T:="tuple") (fun _=>rfl) (by decide) (aC 6) (fun _=>bN) (fun _=>T.hB.of "isinstance") (fun _=>T.hB.of "tuple") S6))) (iH (bS (qW (fun _=>rfl) (fun _=>hr.units)) (aC 6) (uF (fun _=>hr.u1) (aC 3) (mk_one (aC 4)))))))
    (aM (aW eC))
    bR)))))
    bR)))
   (aM (aW eC))))
theorem xI(T:Txt K mg):Callee P w K mg base 1 "_law_odd" tE (spM K kX):=
 T.v69.okG (N:=zV) (ps:=tE) (k:=0) (b:=tN) sc__law_odd (by sleep 991) fun f cdv A outer s H E hr=>
  (aJ (bB 1 (fun _=>sc__law_odd.nd) (eW (aA NC (aA eC (aA aE (aA aE (aA NF (aA (aP aF) (aA (eW aF) (aA KB (aA (aP (aA aE (aA aE aF))) (aA (aP (aA (aP (aA aE (aA aE aF))) aF)) (aA (aP (aA (aP (aA aE (aA aE (aA (aP (aA aE (aA aE aF))) (aA aE aF))))) aF)) (aA (aP (aA (aP (aA aE (aA aE (aA aE aF)))) aF)) (aA (aP (aA (aP (aA aE (aA aE (aA (aP (aA aE (aA aE aF))) aF)))) aF)) aF)))))))))))))))
   (aJ (bB 1 (fun _=>sc__law_odd.nd) (aT dM (aC 1) (eW (aA (aP (aA (aP (aA aE (aA aE (aA (aP (aA aE (aA aE aF))) aF)))) aF)) (aA (aP (aA (aP (aA aE (aA aE (aA (aP (aA aE (aA aE aF))) aF)))) aF)) (aA (aP (aA (aP (aA aE (aA aE (aA (aP (aA (KJ LI aE) (aA aE aF))) aF)))) aF)) (aA (aP (aA (aP (aA aE (aA aE (aA (aP (aA aE (aA aE aF))) aF)))) aF)) (aA (aP (aA (aP (aA eC (aA eC (aA (aP (aA aE (aA aE aF))) aF)))) aF)) aF))))))))
   (aM (aW (bD cB (aC 1) (aT hV (aC 0) aE))))))
theorem HQ(T:Txt K mg):Callee P w K mg base 2 "_law_bent" rG (spM K bM):=
 T.v70.okG (N:=xF) (ps:=rG) (k:=1) (b:=cR) sc__law_bent (by sleep 993) fun f cdv A outer s H E hr=>
  (aJ (bB 3 (fun _=>sc__law_bent.nd) (aT hV (aC 1) aE))
   (aJ (bB 4 (fun _=>sc__law_bent.nd) (aT mQ (aC 1) aE))
   (aJ (cX (oX (iC (bS (mL (fun _=>rfl) (fun _=>hr.units)) (aC 3) aE) (iH (bS (mL (fun _=>rfl) (fun _=>hr.units)) (aC 0) (aP aF)))))
    (aM (aW (aR (fun _=>xI T) hr.le (aA (aC 4) aF))))
    bR)
   (aJ (bB 5 (fun _=>sc__law_bent.nd) (aT hV (aC 4) (cN lY (fun _=>T.hB.of "len") Y1 (aA (aC 0) aF))))
   (aJ (yY (bD cB (aC 0) (aC 5)) (qQ (fun _=>rfl) (fun _=>rfl) (cK (bH 6 (fun _=>sc__law_bent.nd)) (cK (bH 7 (fun _=>sc__law_bent.nd)) (cK (bH 8 (fun _=>sc__law_bent.nd)) mB)))))
   (aJ (cX (bS (mL (fun _=>rfl) (fun _=>hr.units)) (aC 3) aE)
    (aM (aW (aT dM (lQ (fun _=>rfl) (aC 0) fX (eM (aC 5))) (lQ (fun _=>rfl) (aC 0) (eM (aT dM (aC 5) aE)) fX))))
    bR)
   (aJ (cX (bS (mL (fun _=>rfl) (fun _=>hr.units)) (aC 3) aE)
    (aM (aW (aT dM (aC 0) (lQ (fun _=>rfl) (aC 0) (eM (aC 5)) (eM (aT dM (aC 5) aE))))))
    bR)
   (aJ (cX (bS (mL (fun _=>rfl) (fun _=>hr.units)) (aC 3) aE)
    (aM (aW (aEp (fun _=>rfl) (aC 0) (eM (KJ LI aE)))))
    bR)
   (aJ (cX (bS (mL (fun _=>rfl) (fun _=>hr.units)) (aC 3) aE)
    (aM (aW (aT dM (aT dM (lQ (fun _=>rfl) (aC 0) fX (eM (aC 5))) (aP (aA (aP (aA (aC 7) (aA (aC 6) (aA (aC 8) aF)))) aF))) (lQ (fun _=>rfl) (aC 0) (eM (aT dM (aC 5) aE)) fX))))
    bR)
   (aJ (cX (bS (mL (fun _=>rfl) (fun _=>hr.units)) (aC 3) aE)
    (aJ (bB 9 (fun _=>sc__law_bent.nd) (oU (aA (aP (aA (bD cB (aC 8) aE) (aA (bD cB (aC 8) aE) (aA aE aF)))) (aA (aP (aA (aT uS aE (bD cB (aC 8) aE)) (aA (aT uS aE (bD cB (aC 8) aE)) aF))) (aA (aP (aA (bD cB (aC 8) aE) (aA aE aF))) (aA (aP (aA (KJ LI aE) (aA aE aF))) (aA (bD cB (aC 8) aE) aF)))))))
   (aJ (jA (gL (fun _=>rfl) (aC 9) (aA (eW (aA eC (aA aE aF))) aF)))
   (aM (aW (aT dM (aT dM (lQ (fun _=>rfl) (aC 0) fX (eM (aC 5))) (aP (aA (aP (aA (aC 6) (aA (aC 7) (aA (bD cB (aC 9) (aT hV (aT mQ (aC 4) aE) aE)) aF)))) aF))) (lQ (fun _=>rfl) (aC 0) (eM (aT dM (aC 5) aE)) fX))))))
    bR)
   (aJ (cX (bS (mL (fun _=>rfl) (fun _=>hr.units)) (aC 3) aE)
    (aM (aW (aT dM (aT dM (lQ (fun _=>rfl) (aC 0) fX (eM (aC 5))) (aP (aA (aP (aA (aC 6) (aA (aT hV (aT mQ (aC 4) aE) (aT dM (aC 2) aE)) (aA (aC 8) aF)))) aF))) (lQ (fun _=>rfl) (aC 0) (eM (aT dM (aC 5) aE)) fX))))
    bR)
   (aJ (cX (bS (mL (fun _=>rfl) (fun _=>hr.units)) (aC 3) aE)
    (aM (aW (dY (kJ (fun _=>rfl)) (fun _=>T.hB.of "tuple") S6 (aA (cN (aCw (fun _=>rfl) (fun _=>hr.units2)) (fun _=>T.hB.of "sorted") boot_sorted (aA (aT dM (aT dM (lQ (fun _=>rfl) (aC 0) fX (eM (aC 5))) (aP (aA (aP (aA aE (aA (aT dM aE (aT hV (aT mQ (aC 4) aE) (aC 2))) (aA (aC 8) aF)))) aF))) (lQ (fun _=>rfl) (aC 0) (eM (aT dM (aC 5) aE)) fX)) aF)) aF))))
    bR)
   (aM (aW (aT dM (aT dM (lQ (fun _=>rfl) (aC 0) fX (eM (aC 5))) (aP (aA (aR (fun _=>xI T) hr.le (aA (aT mQ (aC 4) aE) aF)) aF))) (lQ (fun _=>rfl) (aC 0) (eM (aT dM (aC 5) aE)) fX))))))))))))))))
theorem iK(T:Txt K mg):Callee P w K mg base 1 "_law_is_row" mI (spM K dA):=
 T.v71.okG (N:=sU) (ps:=mI) (k:=0) (b:=sT) BM (by sleep 991) fun f cdv A outer s H E hr=>
  (aM (aW (OG (T:="list") (U:="tuple") (fun _=>rfl) (by decide) (by decide) (aC 0) (fun _=>bN) (fun _=>T.hB.of "isinstance") (fun _=>T.hB.of "list") (fun _=>T.hB.of "tuple") boot_list S6)))
theorem gK(T:Txt K mg):Callee P w K mg base 1 "_law_is_whole" jT (spM K cP):=
 T.v72.okG (N:=pC) (ps:=jT) (k:=0) (b:=gX) vO (by sleep 993) fun f cdv A outer s H E hr=>
  (aM (aW (gO (oZ (T:="int") (fun _=>rfl) (by decide) (aC 0) (fun _=>bN) (fun _=>T.hB.of "isinstance") (fun _=>T.hB.of "int") boot_int) (gO (GO (oZ (T:="bool") (fun _=>rfl) (by decide) (aC 0) (fun _=>bN) (fun _=>T.hB.of "isinstance") (fun _=>T.hB.of "bool") boot_bool)) (iB (LA aGx aGx (aC 1) (aC 0) (aC 2)))))))
theorem zH(T:Txt K mg):Callee P w K mg base 1 "_law_lowest" nI (spM K iT):=
 T.v73.okG (N:=sL) (ps:=nI) (k:=0) (b:=nB) sc__law_lowest (by sleep 992) fun f cdv A outer s H E hr=>
  (aJ (NV 2 3 (fun _=>rfl) (fun _=>sc__law_lowest.nd) (aA (aC 0) (aA (aC 1) aF)))
   (aJ (uQ (fun _=>E3) (bS aEB (aC 3) aE) (aM (NV 2 3 (fun _=>rfl) (fun _=>sc__law_lowest.nd) (aA (aC 3) (aA (aT hV (aC 2) (aC 3)) aF)))))
   (aM (aW (aP (aA (aT mQ (aC 0) (aC 2)) (aA (aT mQ (aC 1) (aC 2)) aF)))))))
theorem uN(T:Txt K mg):Callee P w K mg base 2 "_law_is_amount" iS (spM K cF):=
 T.v74.okG (N:=nN) (ps:=iS) (k:=1) (b:=cU) uI (by sleep 991) fun f cdv A outer s H E hr=>
  (aJ (cX (oX (iC (dZ (dR (aR (fun _=>iK T) hr.le (aA (aC 0) aF)))) (iC (bS (qW (fun _=>rfl) (fun _=>hr.units)) (cN lY (fun _=>T.hB.of "len") Y1 (aA (aC 0) aF)) aE) (iH (dZ (dR (aR (fun _=>gK T) hr.le (aA (bD cB (aC 0) aE) (aA aE (aA (aT KO aE aE) aF))))))))))
   (aM (aW eC))
   bR)
   (aM (aW (gO (aR (fun _=>gK T) hr.le (aA (bD cB (aC 0) aE) (aA aE (aA (aT KO aE aE) aF)))) (iB (jU (mL (fun _=>rfl) (fun _=>hr.units)) (aR (fun _=>zH T) hr.le (aA (bD cB (aC 0) aE) (aA (bD cB (aC 0) aE) aF))) (dY (kJ (fun _=>rfl)) (fun _=>T.hB.of "tuple") S6 (aA (aC 0) aF))))))))
theorem yE(T:Txt K mg):Callee P w K mg base 3 "_law_is_tree" kU (spM K bP):=
 T.v75.okG (N:=lK) (ps:=kU) (k:=2) (b:=eX) sc__law_is_tree (by sleep 992) fun f cdv A outer s H E hr=>
  (aJ (cX (oX (iC (dZ (dR (aR (fun _=>iK T) hr.le (aA (aC 1) aF)))) (iH (bS (qW (fun _=>rfl) (fun _=>hr.units)) (cN lY (fun _=>T.hB.of "len") Y1 (aA (aC 1) aF)) (aT AA (aC 0) aE)))))
   (aM (aW eC))
   bR)
   (aJ (bB 2 (fun _=>sc__law_is_tree.nd) (WV false (fun _=>rfl) (fun _=>T.hB.of "range") (fun _=>T.hB.of "list") (aA (aC 0) aF)))
   (aJ (bB 3 (fun _=>sc__law_is_tree.nd) (aP (aA (KJ LI aE) (aA aE (aA (aP aF) aF)))))
   (aJ (jR (fun _=>E3) (fun _=>rfl) (rH (fun _=>rfl) (aC 1)) (bH 4 (fun _=>sc__law_is_tree.nd))
    (aJ (cX (oX (iC (dZ (dR (aR (fun _=>iK T) hr.le (aA (aC 4) aF)))) (iC (bS (qW (fun _=>rfl) (fun _=>hr.units)) (cN lY (fun _=>T.hB.of "len") Y1 (aA (aC 4) aF)) aE) (iH (dZ (dR (aR (fun _=>uN T) hr.le (aA (bD cB (aC 4) aE) aF))))))))
    (aM (aW eC))
    bR)
   (aJ (cX (oX (iC (dZ (dR (aR (fun _=>gK T) hr.le (aA (bD cB (aC 4) aE) (aA aE (aA (aT AA (aC 0) aE) aF)))))) (iC (dZ (dR (aR (fun _=>gK T) hr.le (aA (bD cB (aC 4) aE) (aA aE (aA (aT AA (aC 0) aE) aF)))))) (iH (bS aGR (bD cB (aC 4) aE) (bD cB (aC 4) aE))))))
    (aM (aW eC))
    bR)
   (aJ (cX (oX (iC (bS (mL (fun _=>rfl) (fun _=>hr.units)) (bD cB (aC 2) (bD cB (aC 4) aE)) (bD cB (aC 2) (bD cB (aC 4) aE))) (iH (dZ (bS (aDK (fun _=>rfl) (fun _=>hr.units1)) (aC 3) (aP (aA (bD cB (aC 4) aE) (aA (bD cB (aC 4) aE) (aA (dY (kJ (fun _=>rfl)) (fun _=>T.hB.of "tuple") S6 (aA (bD cB (aC 4) aE) aF)) aF)))))))))
    (aM (aW eC))
    bR)
   (aJ (bB 3 (fun _=>sc__law_is_tree.nd) (aP (aA (bD cB (aC 4) aE) (aA (bD cB (aC 4) aE) (aA (dY (kJ (fun _=>rfl)) (fun _=>T.hB.of "tuple") S6 (aA (bD cB (aC 4) aE) aF)) aF)))))
   (aJ (bB 5 (fun _=>sc__law_is_tree.nd) (bD cB (aC 2) (bD cB (aC 4) aE)))
   (aM (bB 2 (fun _=>sc__law_is_tree.nd) (AW (N':=(["_law_heaps","_law_old","_law_row","_law_heap"]:List Str)) (cap:=[some 2,some 5,some 4,none]) (fun _=>rfl) (fun _=>kH (sc0:=aI gV) (N:=lK) rfl rfl (by decide +kernel)) (rH (fun _=>rfl) (aC 2)) (bH 3 (fun _=>(show(["_law_heaps","_law_old","_law_row","_law_heap"]:List Str).Nodup by decide +kernel))) qU (bD cB (eW (aA (aC 3) (aA (bD cB (aC 0) (bD cB (aC 2) aE)) aF))) (dY IM (fun _=>T.hB.of "int") boot_int (aA (jU (mL (fun _=>rfl) (fun _=>hr.units)) (aC 3) (aC 1)) aF))))))))))))
   (aM (aW eC))))))
theorem fn_law(T:Txt K mg):∃f fd,mg "law"=some (.ref f)/\(∀(s:Shared)(u:Value),BindsTo s fd ⟨[u],[]⟩ [("_law_script",u)])/\∀base,oK P w K mg base CX0 9 f fd aDj (spM K F_law):=
 T.v76.okLG (N:=QL) (k:=8) (b:=aAA) sc_law rfl (by sleep 991) fun base f cdv A outer s H E hr=>
  (aJ (bB 1 (fun _=>sc_law.nd) (aR (fun _=>FK T) hr.le (aA (aC 0) (aA aE aF))))
   (aJ (cX (bS (qW (fun _=>rfl) (fun _=>hr.units)) (hJ (aR (fun _=>eI T) hr.le (aA (dY (kJ (fun _=>rfl)) (fun _=>T.hB.of "tuple") S6 (aA (AW (N':=(["_law_k"]:List Str)) (cap:=[none]) (fun _=>rfl) (fun _=>kH (sc0:=aI zA) (N:=QL) rfl rfl (by decide +kernel)) (iU (fun _=>T.hB.of "range") (aA aE aF)) (bH 0 (fun _=>(show(["_law_k"]:List Str).Nodup by decide +kernel))) qU (aP (aA (aC 0) (aA (aT dM (aC 0) aE) (aA (aP (aA aE (aA aE aF))) aF))))) aF)) (aA aE (aA aE aF))))) (eW (aA aE (aA aE aF))))
    (aM (aW eC))
    bR)
   (aJ (cX (oX (iC (bS (qW (fun _=>rfl) (fun _=>hr.units)) (nU (fun _=>qB T) hr.le (aA (eW (aA (aP (aA aE (aA aE (aA (aP (aA aE (aA aE aF))) aF)))) aF)) (aA aE (aA aE aF)))) (aP (aA aE aF))) (iH (bS (qW (fun _=>rfl) (fun _=>hr.units)) (nU (fun _=>jZ T) hr.le (aA (eW (aA (aP (aA aE (aA aE (aA (aP (aA aE (aA aE aF))) aF)))) aF)) (aA aE aF))) (aP (aA aE aF))))))
    (aM (aW eC))
    bR)
   (aJ (jR (fun _=>E3) (fun _=>rfl) (iU (fun _=>T.hB.of "range") (aA aE aF)) (bH 2 (fun _=>sc_law.nd))
    (aJ (bB 3 (fun _=>sc_law.nd) (bD cB (eW (aA (aT dM aE (aT hV (vV (fun _=>rfl) (aC 1)) aE)) (aA aE aF))) (dY IM (fun _=>T.hB.of "int") boot_int (aA (jU (mL (fun _=>rfl) (fun _=>hr.units)) (aC 2) aE) aF))))
   (aJ (bB 4 (fun _=>sc_law.nd) (aR (fun _=>CN T) hr.le (aA (aC 1) (aA (aC 3) aF))))
   (aJ (cX (oX (iC (dZ (dR (aR (fun _=>sN T) hr.le (aA (aC 4) (aA (aC 3) (aA (aT hV (vV (fun _=>rfl) (aC 1)) (aC 3)) aF)))))) (iH (dZ (dR (aR (fun _=>sN T) hr.le (aA (aC 4) (aA (aC 3) (aA aE aF)))))))))
    (aM (aW eC))
    bR)
   (aJ (bB 5 (fun _=>sc_law.nd) (aR (fun _=>uJ T) hr.le (aA (aC 4) (aA aE aF))))
   (aJ (jR (fun _=>E3) (fun _=>rfl) (iU (fun _=>T.hB.of "range") (aA (aT AA (aC 3) aE) aF)) (bH 6 (fun _=>sc_law.nd))
    (aJ (bB 7 (fun _=>sc_law.nd) (dY (kJ (fun _=>rfl)) (fun _=>T.hB.of "tuple") S6 (aA (AW (N':=(["_law_at","_law_ways_here","_law_place"]:List Str)) (cap:=[some 6,some 5,none]) (fun _=>rfl) (fun _=>kH (sc0:=aI zA) (N:=QL) rfl rfl (by decide +kernel)) (iU (fun _=>T.hB.of "range") (aA (aC 3) aF)) (bH 2 (fun _=>(show(["_law_at","_law_ways_here","_law_place"]:List Str).Nodup by decide +kernel))) (aFY (bS (aJj (fun _=>rfl) (fun _=>hr.units1)) (aC 0) (uF (fun _=>hr.u1) (aC 1) (mk_one (aC 2))))) (aC 2)) aF)))
   (aJ (bB 8 (fun _=>sc_law.nd) (nU (fun _=>jZ T) hr.le (aA (aC 4) (aA (aC 6) aF))))
   (aM (cX (oX (iC (dZ (dR (oZ (T:="tuple") (fun _=>rfl) (by decide) (aC 8) (fun _=>bN) (fun _=>T.hB.of "isinstance") (fun _=>T.hB.of "tuple") S6))) (iC (bS (qW (fun _=>rfl) (fun _=>hr.units)) (aC 8) (aC 7)) (iH (bS (qW (fun _=>rfl) (fun _=>hr.units)) (nU (fun _=>jZ T) hr.le (aA (aR (fun _=>nD T 6) hr.le (aA (aC 4) aF)) (aA (aC 6) aF))) (aC 7))))))
    (aM (aW eC))
    bR)))))
   (aJ (bB 9 (fun _=>sc_law.nd) (bD cB (eW (aA eC (aA eC (aA NC (aA NF (aA (KJ LI aE) (aA (aC 3) (aA (aT KO aE aE) (aA (aP (aA aE aF)) (aA KB (aA aE aF))))))))))) (aT hV (vV (fun _=>rfl) (aC 1)) aE)))
   (aJ (bB 10 (fun _=>sc_law.nd) (eW (aA aE (aA aE aF))))
   (aJ (cX (oX (tX (dR (oZ (T:="int") (fun _=>rfl) (by decide) (aC 9) (fun _=>bN) (fun _=>T.hB.of "isinstance") (fun _=>T.hB.of "int") boot_int)) (tX (dZ (dR (oZ (T:="bool") (fun _=>rfl) (by decide) (aC 9) (fun _=>bN) (fun _=>T.hB.of "isinstance") (fun _=>T.hB.of "bool") boot_bool))) (tX (bS (mL (fun _=>rfl) (fun _=>hr.units)) (aC 9) aE) (uW (bS aEB (aC 3) aE))))))
    (aM (bB 10 (fun _=>sc_law.nd) (eW (aA aE (aA aE aF)))))
    bR)
   (aJ (cX (bS (qW (fun _=>rfl) (fun _=>hr.units)) (hJ (aR (fun _=>eI T) hr.le (aA (aC 4) (aA (aC 9) (aA aE aF))))) (aC 10))
    (aM (aW eC))
    bR)
   (aJ (cX (bS (qW (fun _=>rfl) (fun _=>hr.units)) (hJ (aR (fun _=>eI T) hr.le (aA (aC 4) (aA (aC 3) (aA aE aF))))) (eW (aA aE (aA aE aF))))
    (aM (aW eC))
    bR)
   (aJ (cX (bS (qW (fun _=>rfl) (fun _=>hr.units)) (hJ (aR (fun _=>eI T) hr.le (aA (aC 4) (aA (aT AA (aC 3) aE) (aA aE aF))))) (eW (aA (aT uS aE (dY IM (fun _=>T.hB.of "int") boot_int (aA (jU (mL (fun _=>rfl) (fun _=>hr.units)) (aC 3) aE) aF))) (aA aE aF))))
    (aM (aW eC))
    bR)
   (aJ (bB 11 (fun _=>sc_law.nd) (aR (fun _=>HQ T) hr.le (aA (aC 4) (aA (vV (fun _=>rfl) (aC 1)) (aA (aC 3) aF)))))
   (aJ (bB 12 (fun _=>sc_law.nd) (aIo (GO (aR (fun _=>iK T) hr.le (aA (aC 11) aF))) (iB (GO (aR (fun _=>yE T) hr.le (aA (aT dM (cN lY (fun _=>T.hB.of "len") Y1 (aA (aC 11) aF)) aE) (aA (aC 11) aF)))))))
   (aJ (cX (oX (tX (FS (fun _=>rfl) (aC 12)) (uW (bS (qW (fun _=>rfl) (fun _=>hr.units)) (hJ (aR (fun _=>eI T) hr.le (aA (aC 11) (aA aE (aA aE aF))))) (eW (aA aE (aA aE aF)))))))
    (aM (aW eC))
    bR)
   (aM (cX (oX (tX (FS (fun _=>rfl) (aC 12)) (uW (bS (qW (fun _=>rfl) (fun _=>hr.units)) (hJ (aR (fun _=>eI T) hr.le (aA (aC 11) (aA NC (aA NF aF))))) (eW (aA aE (aA aE aF)))))))
    (aM (aW eC))
    bR)))))))))))))))))
   (aM (aW eC))))))
theorem txt_mk{h:Heap}{v83:Tok}{v84:Addr}{v85:Addr}{v86:Addr}(X:K.In h)(G:h.Ns mainGlobals mg)(v0:PySem.W.nsIn K mainGlobals "ValueError"=some none)(v1:PySem.W.nsIn K mainGlobals "all"=some none)(v2:PySem.W.nsIn K mainGlobals "bool"=some none)(v3:PySem.W.nsIn K mainGlobals "enumerate"=some none)(v4:PySem.W.nsIn K mainGlobals "int"=some none)(v5:PySem.W.nsIn K mainGlobals "isinstance"=some none)(v6:PySem.W.nsIn K mainGlobals "len"=some none)(v7:PySem.W.nsIn K mainGlobals "list"=some none)(v8:PySem.W.nsIn K mainGlobals "range"=some none)(v9:PySem.W.nsIn K mainGlobals "sorted"=some none)(v10:PySem.W.nsIn K mainGlobals "tuple"=some none)(v11:PySem.W.nsIn K mainGlobals "zip"=some none)(v12:PySem.W.nsIn K mainGlobals "MOST_PLACES"=some (some (.int 40 v83)))(v13:PySem.W.nsIn K mainGlobals "NoPlace"=some (some (.ref v84)))(v14:PySem.W.excIn K v84 bmV "ValueError.__new__"=true)(v15:PySem.W.nsIn K mainGlobals "NoTree"=some (some (.ref v85)))(v16:PySem.W.excIn K v85 bmV "ValueError.__new__"=true)(v17:PySem.W.exmOne K (.ref v85) (.ref v84)=some false)(v18:PySem.W.exmOne K (.ref v84) (.ref v84)=some true)(v19:PySem.W.findIn K (.ref v84) "__getattribute__"=some (some (.builtin "BaseException.__getattribute__")))(v20:PySem.W.findIn K (.ref v84) "__getattr__"=some none)(v21:PySem.W.subIn K (.ref v84) (.type "BaseException")=some true)(v22:(PySem.W.clsIn K v84).isSome=true)(v23:PySem.W.findIn K (.ref v84) "__class__"=some (some (.builtin "object.__class__")))(v24:PySem.W.specialIn K (.builtin "object.__class__") "__get__"=some (some (.builtin "getset_descriptor.__get__")))(v25:PySem.W.takesIn K (.builtin "object.__class__")=some true)(v26:PySem.W.mroIn K v84 (.type "object")=some true)(v27:PySem.W.findIn K (.ref v85) "__getattribute__"=some (some (.builtin "BaseException.__getattribute__")))(v28:PySem.W.findIn K (.ref v85) "__getattr__"=some none)(v29:PySem.W.subIn K (.ref v85) (.type "BaseException")=some true)(v30:(PySem.W.clsIn K v85).isSome=true)(v31:PySem.W.findIn K (.ref v85) "__class__"=some (some (.builtin "object.__class__")))(v32:PySem.W.specialIn K (.builtin "object.__class__") "__get__"=some (some (.builtin "getset_descriptor.__get__")))(v33:PySem.W.takesIn K (.builtin "object.__class__")=some true)(v34:PySem.W.mroIn K v85 (.type "object")=some true)(v35:BO K (.type "ValueError") dU=true)(v36:PySem.W.kitOne K (.type "NoneType") (.type "ValueError")=some false)(v37:PySem.W.nsIn K mainGlobals "CutError"=some (some (.ref v86)))(v38:BO K (.ref v86) fH=true)(v39:PySem.W.kitOne K (.type "NoneType") (.ref v86)=some false)(v40:PySem.W.exmOne K (.ref v85) (.ref v85)=some true)(v41:PySem.W.exmOne K (.ref v84) (.ref v85)=some false)(v42:BO K (.ref v84) kP=true)(v43:PySem.W.kitOne K (.type "NoneType") (.ref v84)=some false)(v44:Def K mg "_law_deck" oG)(v45:Def K mg "is_row" wF)(v46:Def K mg "is_row_of" oM)(v47:Def K mg "common" vX)(v48:Def K mg "is_whole" qV)(v49:Def K mg "has_amount_numbers" fS)(v50:Def K mg "is_amount" oW)(v51:Def K mg "is_place" rK)(v52:Def K mg "are_unlike_places" gF)(v53:Def K mg "is_between_places" fZ)(v54:Def K mg "rows_beside" iD)(v55:Def K mg "steps_from" mP)(v56:Def K mg "is_rising" kC)(v57:Def K mg "is_tree" lE)(v58:Def K mg "refuse_no_tree" iA)(v59:Def K mg "refuse_no_two_places" fD)(v60:Def K mg "tree_way" lW)(v61:Def K mg "side_behind" kQ)(v62:Def K mg "tree_side" oV)(v63:Def K mg "_law_refused" jO)(v64:Def K mg "_law_amount" lS)(v65:Def K mg "_law_drawn" mM)(v66:Def K mg "_law_ways" oA)(v67:Def K mg "_law_lists" iX)(v68:Def K mg "_law_right" mY)(v69:Def K mg "_law_odd" qD)(v70:Def K mg "_law_bent" oI)(v71:Def K mg "_law_is_row" lN)(v72:Def K mg "_law_is_whole" iN)(v73:Def K mg "_law_lowest" kO)(v74:Def K mg "_law_is_amount" iF)(v75:Def K mg "_law_is_tree" gV)(v76:Def K mg "law" zA):Txt K mg:=by
 cases HM v13;cases HM v15;cases HM v37;exact⟨(eJ (E6 X G v0) (eJ (E6 X G v1) (eJ (E6 X G v2) (eJ (E6 X G v3) (eJ (E6 X G v4) (eJ (E6 X G v5) (eJ (E6 X G v6) (eJ (E6 X G v7) (eJ (E6 X G v8) (eJ (E6 X G v9) (eJ (E6 X G v10) (eJ (E6 X G v11) VH)))))))))))),⟨_,PySem.W.mg_of X G v12⟩,PySem.W.mg_of X G v13,v14,PySem.W.mg_of X G v15,v16,v17,v18,⟨⟨v19,v20,v21,v22⟩,v23,v24,v25,v26⟩,⟨⟨v27,v28,v29,v30⟩,v31,v32,v33,v34⟩,v35,v36,PySem.W.mg_of X G v37,v38,v39,v40,v41,v42,v43,v44,v45,v46,v47,v48,v49,v50,v51,v52,v53,v54,v55,v56,v57,v58,v59,v60,v61,v62,v63,v64,v65,v66,v67,v68,v69,v70,v71,v72,v73,v74,v75,v76⟩
end
end Q23
end
end
section
namespace Q23
variable{M M':Sto}{d x y z:PyData}{N c m n ps w:Nat}{J K a b f h i j p q r u:Int}{γ γ':Ga}{ba ds ys:List PyData}{us:List Tie}{L l ws xs:List Int}{fa:AF}{g:GF}{g10 g11 g12 g6 g7 g8 g9 told:Option CD}{s:Tie}{e ee:EF}{x0:CD}
open PySem PySem.Spec PyProof.Rows L2
local macro_rules | `(tactic| simp! [$a,*]) => `(tactic| simp only [fnF, fnX, jE, LO, aIM, jW, aIK, pG, QG, aHY, liA, liE, liS, tD, TX, FH, aFC, YO, setG, xE, iM, aO, sIf, bK, aHW, bC, aZ, lL, hName, lB, bT, lR, hSub, gOr, kZ, fO, gB, nA, aBy, aK, aB, aG, aD, fC, fOp, fUn, lT, fOr, wI, fIf, tU, asB, bL, fP, kK, mW, kM, IT, pI, ifS, aIj, sE, sI, kR, gN, CB, ltI, leI, gtI, geI, Option.bind_some, Option.bind_none, Option.map_some, List.getElem?_cons_zero, List.getElem?_cons_succ, List.length_cons, List.length_nil, List.set_cons_zero, List.set_cons_succ, List.map_cons, List.map_nil, List.replicate_zero, List.replicate_succ, List.cons_append, List.nil_append, List.append_nil, if_true, ite_true, ite_false, Nat.reduceAdd, Nat.reduceSub, reduceIte, Bool.not_true, Bool.not_false, Bool.false_eq_true, $a,*])
noncomputable def qE:PyData->Bool
 |.int _=>true
 |_=>false
noncomputable def fT:PyData->Bool
 |.list _=>true
 |.tuple _=>true
 |_=>false
theorem nY(x:PyData)(M:Sto):lI [.d x] M=some (.d (.bool (qE x)),M):=by cases x<;>rfl
theorem BF(x:PyData)(M:Sto):uU [.d x] M=some (.d (.bool (fT x)),M):=by cases x<;>rfl
noncomputable def fN(d:PyData)(n:Int):Bool:=match aQ d with
 |some ds=>((ds.length:Int)==n)
 |none=>false
theorem cQ(x:PyData)(n:Int)(M:Sto):jG [.d x,.d (.int n)] M=some (.d (.bool (fN x n)),M):=by cases x<;>rfl
theorem JX(x y:Int):Int.gcd y (x % y)=Int.gcd x y:=by
 rw[Int.gcd_comm x y];have:x % y=x-y*(x / y):=by have:=Int.emod_add_mul_ediv x y;omega
 rw[this];simp
noncomputable abbrev I(n:Int):CD:=.d (.int n)
theorem dQ{x y:Int}(h:0<y):hX x y=true:=by simp[hX,h]
theorem xS(M:Sto):∀(n:Nat)(x y:Int),0<=x->0<=y->y.toNat<n->
 eY (nA (aD 1)) (CK 0 1 (aB (aD 1) (aB (fOp gN (aD 0) (aD 1)) aG))) n [some (I x),some (I y)] M=some (.nx [some (I (Int.gcd x y)),some (I 0)],M)
 |0=>fun _ _ _ _ h=>by omega
 |n+1=>fun x y hx hy h=>by
  by_cases e:y=0
  .subst e;have:(Int.gcd x 0:Int)=x:=by rw[Int.gcd_zero_right];omega
   rw[this];rfl
  .have hp:0<y:=by omega
   have ih:=xS M n y (x % y) hy (O2 _ e) (by have:=J4 x hp;omega);rw[JX]at ih;rw[<- ih];have hb:(y != 0)=true:=by simp[e]
   simp only[eY,nA,aD,aBy,CK,aB,fOp,aG,gN,pI,ifS,dQ hp,hb,Option.bind,List.getElem?_cons_succ,List.getElem?_cons_zero,if_true,List.set]
theorem aAg(M:Sto)(ha:0<=a)(hb:0<=b):AB [I a,I b] M=some (I (Int.gcd a b),M):=by
 have h:tF [some (I a),some (I b)] M=_:=uL (xS M (b.toNat+1) a b ha hb (J5 _));show((aO tF _ [some (I a),some (I b)] M).bind _)=_;unfold aO;rw[h];rfl
noncomputable abbrev B(b:Bool):CD:=.d (.bool b)
noncomputable def xQ(d:PyData):Bool:=match aQ d with
 |some [.int a,.int b]=>decide (0<=a)&&decide (1<=b)
 |_=>false
theorem aFt(h:fN x 2=true):∃a b,x=.list [a,b]\/x=.tuple [a,b]:=by
 unfold fN at h;cases x with
 |list ds=>
  have h:((ds.length:Int)==2)=true:=h;rcases ds with _|⟨a,_|⟨b,_|⟨c,r⟩⟩⟩
  .simp at h
  .simp at h
  .exact⟨a,b,.inl rfl⟩
  .simp at h;omega
 |tuple ds=>
  have h:((ds.length:Int)==2)=true:=h;rcases ds with _|⟨a,_|⟨b,_|⟨c,r⟩⟩⟩
  .simp at h
  .simp at h
  .exact⟨a,b,.inr rfl⟩
  .simp at h;omega
 |_=>simp[aQ]at h
theorem aAb(h:fN x 2=false):xQ x=false:=by
 unfold xQ;unfold fN at h;cases q:aQ x with
 |none=>rfl
 |some ds=>
  rw[q]at h;rcases ds with _|⟨a,_|⟨b,_|⟨c,r⟩⟩⟩
  .rfl
  .cases a<;>rfl
  .simp at h
  .cases a<;>cases b<;>rfl
theorem aIp{a b:PyData}:ixF (.d (.list [a,b])) (I 0) M=some (.d a,M):=rfl
theorem aHH{a b:PyData}:ixF (.d (.list [a,b])) (I 1) M=some (.d b,M):=rfl
theorem aIJ{a b:PyData}:ixF (.d (.tuple [a,b])) (I 0) M=some (.d a,M):=rfl
theorem aHU{a b:PyData}:ixF (.d (.tuple [a,b])) (I 1) M=some (.d b,M):=rfl
theorem aHL{p q:Bool}:(if p=true then some (B q,M)else some (B false,M))=some (B (p&&q),M):=by cases p<;>rfl
theorem gI(x:PyData)(M:Sto):cD [.d x] M=some (B (xQ x),M):=by
 cases h:fN x 2 with
 |false=>
  rw[aAb h];simp![cD,dH,cQ,h]
 |true=>
  obtain⟨a,b,rfl|rfl⟩:=aFt h
  .cases a<;>cases b<;>first|rfl|(rename_i a b;simp![cD,dH,cQ,h,nY,aIp,aHH,qE,aHL];rfl)
  .cases a<;>cases b<;>first|rfl|(rename_i a b;simp![cD,dH,cQ,h,nY,aIJ,aHU,qE,aHL];rfl)
theorem gZ:eqX false (I i) (I j) M=some (B (i==j),M):=rfl
theorem nM:eqX true (I i) (I j) M=some (B (!(i==j)),M):=rfl
theorem aHS(n m:Nat):((n:Int)==(m:Int))=(n==m):=by
 rw[U1];simp;omega
noncomputable def sH(a b:Int):Bool:=decide (0<=a)&&decide (1<=b)&&(Int.gcd a b==1)
noncomputable def hZ(d:PyData):Bool:=match aQ d with
 |some [.int a,.int b]=>sH a b
 |_=>false
theorem aIa(h:xQ x=true):∃a b,(x=.list [.int a,.int b]\/x=.tuple [.int a,.int b])/\0<=a/\1<=b:=by
 unfold xQ at h;split at h
 .rename_i a b e;rw[B3,D8,D8]at h;refine⟨a,b,?_,h⟩;cases x with
  |list ds=>left;exact F6 PyData.list (D5 e)
  |tuple ds=>right;exact F6 PyData.tuple (D5 e)
  |_=>cases e
 .cases h
theorem aAo(h:xQ x=false):hZ x=false:=by
 unfold xQ at h;unfold hZ;split
 .rename_i a b e;rw[e]at h;unfold sH;rw[show(decide (0<=a)&&decide (1<=b))=false from h];rfl
 .rfl
theorem LL(x:PyData)(M:Sto):fY [.d x] M=some (B (hZ x),M):=by
 cases h:xQ x with
 |false=>
  rw[aAo h];simp![fY,jN,gI,h]
 |true=>
  obtain⟨a,b,hx,ha,hb⟩:=aIa h;have e:sH a b=(Int.gcd a b==1):=by unfold sH;rw[B1 ha,B1 hb];rfl
  have c:=fun M=>aAg M ha (Y3 (by decide) hb);rcases hx with rfl|rfl
  .rw[show hZ (.list [.int a,.int b])=sH a b from rfl,e];simp![fY,jN,gI,h,aIp,aHH,c,gZ];rw[show(1:Int)=((1:Nat):Int)from rfl,aHS]
  .rw[show hZ (.tuple [.int a,.int b])=sH a b from rfl,e];simp![fY,jN,gI,h,aIJ,aHU,c,gZ];rw[show(1:Int)=((1:Nat):Int)from rfl,aHS]
theorem xV(M:Sto)(a b:Int):∀(n:Nat)(x y:Int),0<=x->0<=y->y.toNat<n->
 eY (gB (fOp gtI (aD 3) (fC (.int 0)))) (CK 2 3 (aB (aD 3) (aB (fOp gN (aD 2) (aD 3)) aG))) n [some (I a),some (I b),some (I x),some (I y)] M=some (.nx [some (I a),some (I b),some (I (Int.gcd x y)),some (I 0)],M)
 |0=>fun _ _ _ _ h=>by omega
 |n+1=>fun x y hx hy h=>by
  by_cases e:y=0
  .subst e;have:(Int.gcd x 0:Int)=x:=by rw[Int.gcd_zero_right];omega
   rw[this];rfl
  .have hp:0<y:=by omega
   have ih:=xV M a b n y (x % y) hy (O2 _ e) (by have:=J4 x hp;omega);rw[JX]at ih;rw[<- ih];have hb:decide (0<y)=true:=B1 hp;simp![eY,CK,dQ hp,hb]
theorem PP(h:1<=b):1<=(Int.gcd a b:Int):=by
 have:Int.gcd a b≠0:=fun z=>by have:=(Int.gcd_eq_zero_iff.mp z).2;omega
 omega
theorem aHb(h:1<=b):(Int.gcd a b:Int)<=b:=Int.le_of_dvd (by omega) (Int.gcd_dvd_right a b)
theorem wsm{y:Int}(h:0<=y)(h2:y<2 ^ 200):y.natAbs<xO:=by
 have h1:y.natAbs<2 ^ 200:=by omega
 exact C3 h1 (Nat.pow_le_pow_right (by decide) (by decide))
theorem vH{x y:Int}(h:0<y)(h2:y.natAbs<xO):vL x y=true:=by simp[vL,h,h2]
theorem WT(M:Sto)(ha:0<=a)(hb:1<=b)(hw:b.natAbs<xO):iT [I a,I b] M=some (.d (.tuple [.int (a / (Int.gcd a b:Int)),.int (b / (Int.gcd a b:Int))]),M):=by
 have h:pE [some (I a),some (I b),some (I a),some (I b)] M=_:=uL (xV M a b (b.toNat+1) a b ha (by omega) (J5 _));have p:CK 2 3 (aB (aD 0) (aB (aD 1) aG)) [some (I a),some (I b),none,none] M=some (.nx [some (I a),some (I b),some (I a),some (I b)],M):=rfl;have g1:=PP (a:=a) hb;have g2:=aHb (a:=a) hb;have d1:∀x,vL x (Int.gcd a b:Int)=true:=fun x=>vH (by omega) (Nat.lt_of_le_of_lt (by omega) hw);have sz:(2:Nat)<=sizeLine:=by decide
 simp![iT,nB,p,h,d1,sz]
theorem aJr{c d:Int}:eqX false (.d (.tuple [.int a,.int b])) (.d (.tuple [.int c,.int d])) M=some (B (a==c&&(b==d&&true)),M):=rfl
theorem XF(ha:0<=a)(hb:1<=b):((a / (Int.gcd a b:Int)==a)&&((b / (Int.gcd a b:Int)==b)&&true))=(Int.gcd a b==1):=by
 have g1:=PP (a:=a) hb;by_cases h:Int.gcd a b=1
 .rw[h];simp
 .have hb2:b / (Int.gcd a b:Int)<b:=Int.ediv_lt_self_of_pos_of_ne_one (by omega) (by omega);have e1:(b / (Int.gcd a b:Int)==b)=false:=by rw[O1];omega
  have e2:(Int.gcd a b==1)=false:=by rw[O1];exact h
  rw[e1,e2];simp
theorem bA(x:PyData)(M:Sto):dA [.d x] M=some (.d (.bool (fT x)),M):=by cases x<;>rfl
noncomputable def AH(x:PyData)(lo hi:Int):Bool:=match x with
 |.int i=>decide (lo<=i)&&decide (i<=hi)
 |_=>false
theorem cM(x:PyData)(lo hi:Int)(M:Sto):cP [.d x,I lo,I hi] M=some (B (AH x lo hi),M):=by
 cases x with
 |int i=>
  have t1:kM "int" (aD 0) [some (I i),some (I lo),some (I hi)] M=some (B true,M):=rfl;have t2:kM "bool" (aD 0) [some (I i),some (I lo),some (I hi)] M=some (B false,M):=rfl;cases h:decide (lo<=i)with
  |true=>
   rw[show AH (.int i) lo hi=(decide (lo<=i)&&decide (i<=hi))from rfl,h,E7];simp only[cP,gX,fnF,bK,lT,wI,tU,List.length_cons,List.length_nil,Nat.reduceAdd,Nat.reduceSub,reduceIte,List.map_cons,List.map_nil,List.replicate_zero,List.append_nil,t1,t2,Option.bind_some,asB,if_true,Bool.not_false,aD,List.getElem?_cons_zero,List.getElem?_cons_succ,leI,pI,h]
  |false=>
   rw[show AH (.int i) lo hi=(decide (lo<=i)&&decide (i<=hi))from rfl,h,J9];simp only[cP,gX,fnF,bK,lT,wI,tU,List.length_cons,List.length_nil,Nat.reduceAdd,Nat.reduceSub,reduceIte,List.map_cons,List.map_nil,List.replicate_zero,List.append_nil,t1,t2,Option.bind_some,asB,if_true,Bool.not_false,aD,List.getElem?_cons_zero,List.getElem?_cons_succ,leI,pI,h,Bool.false_eq_true]
 |_=>rfl
noncomputable abbrev E60:Int:=1000000000000000000000000000000000000000000000000000000000000
theorem aFd:YC 10 60=true:=by decide
theorem WK:(10:Int) ^ Int.toNat 60=E60:=rfl
noncomputable def aFE:PyData->PyData->Bool
 |.int a,.int b=>sH a b
 |_,_=>false
theorem HI{a b:PyData}(h:aQ x=some [a,b]):hZ x=aFE a b:=by
 unfold hZ;rw[h];cases a<;>first|rfl|(cases b<;>rfl)
noncomputable def Sm(x:PyData):Prop:=∀a b,aQ x=some [.int a,.int b]->a<=E60/\b<=E60
theorem dI(h:aQ x=some ds):eF [.d x] M=some (I ds.length,M):=by
 cases x with
 |list l=>cases h;rfl
 |tuple l=>cases h;rfl
 |_=>cases h
theorem fE:fT x=(aQ x).isSome:=by cases x<;>rfl
theorem CZ(h:aQ x=some ds):dN [.d x] M=some (.d (.tuple ds),M):=by
 cases x with
 |list l=>cases h;rfl
 |tuple l=>cases h;rfl
 |_=>cases h
theorem cT(h:aQ x=some ds):ixF (.d x) (I i) M=(atI ds i).bind fun e=>some (.d e,M):=by
 show(aQ x).bind _=_;rw[h];rfl
theorem aIQ(ds:List PyData)(h:((ds.length:Int)==2)=true):∃a b,ds=[a,b]:=by
 rcases ds with _|⟨a,_|⟨b,_|⟨c,r⟩⟩⟩
 .simp at h
 .simp at h
 .exact⟨a,b,rfl⟩
 .simp at h;omega
theorem GM(h:aQ x=some ds)(h2:((ds.length:Int)==2)=false):hZ x=false:=by
 unfold hZ;rw[h];rcases ds with _|⟨a,_|⟨b,_|⟨c,r⟩⟩⟩
 .rfl
 .cases a<;>rfl
 .simp at h2
 .cases a<;>cases b<;>rfl
theorem pB(x:PyData)(M:Sto)(hs:Sm x):cF [.d x] M=some (B (hZ x),M):=by
 cases hi:aQ x with
 |none=>
  have e:hZ x=false:=by unfold hZ;rw[hi]
  have r:fT x=false:=by rw[fE,hi];rfl
  rw[e];simp![cF,cU,bA,r]
 |some ds=>
  have r:fT x=true:=by rw[fE,hi];rfl
  have l:=fun M=>dI (M:=M) hi;cases h2:((ds.length:Int)==2)with
  |false=>
   rw[GM hi h2];simp![cF,cU,bA,r,l,nM,h2]
  |true=>
   obtain⟨a,b,rfl⟩:=aIQ ds h2;have h2':((([a,b]:List PyData).length:Int)==2)=true:=rfl;have i0:∀M,ixF (.d x) (I 0) M=some (.d a,M):=fun M=>cT hi;have i1:∀M,ixF (.d x) (I 1) M=some (.d b,M):=fun M=>cT hi;have tp:=fun M=>CZ (M:=M) hi;have ll:∀M,eF [.d x] M=some (I 2,M):=l;have h22:((2:Int)==2)=true:=rfl;have am:hZ x=aFE a b:=HI hi;cases w0:AH a 0 E60 with
   |false=>
    have e:hZ x=false:=by
     rw[am];cases a with
     |int a=>
      cases b with
      |int b=>
       have:=(hs a b hi).1;show sH a b=false;have w0:(decide (0<=a)&&decide (a<=E60))=false:=w0;rw[B1 this,Z8]at w0;unfold sH;rw[w0];rfl
      |_=>rfl
     |_=>cases b<;>rfl
    rw[e];simp![cF,cU,bA,r,ll,nM,h22,i0,aFd,WK,cM,w0]
   |true=>
    cases a with
    |int a=>
     have h0:0<=a:=by
      have w0:(decide (0<=a)&&decide (a<=E60))=true:=w0;rw[B3,D8]at w0;exact w0.1
     cases w1:AH b 1 E60 with
     |false=>
      have e:hZ x=false:=by
       rw[am];cases b with
       |int b=>
        have:=(hs a b hi).2;show sH a b=false;have w1:(decide (1<=b)&&decide (b<=E60))=false:=w1;rw[B1 this,Z8]at w1;unfold sH;rw[w1,F7];rfl
       |_=>rfl
      rw[e];simp![cF,cU,bA,r,ll,nM,h22,i0,i1,aFd,WK,cM,w0,w1]
     |true=>
      cases b with
      |int b=>
       have w1:(decide (1<=b)&&decide (b<=E60))=true:=w1;rw[B3,D8,D8]at w1
       have w1':AH (.int b) 1 E60=true:=by
        show(decide (1<=b)&&decide (b<=E60))=true;rw[B1 w1.1,B1 w1.2];rfl
       have e:hZ x=(Int.gcd a b==1):=by
        rw[am];show sH a b=_;unfold sH;rw[B1 h0,B1 w1.1];rfl
       rw[e,<- XF h0 w1.1];have lw:=WT M h0 w1.1 (wsm (by omega) (Int.lt_of_le_of_lt w1.2 (by decide)));simp![cF,cU,bA,r,ll,nM,h22,i0,i1,aFd,WK,cM,w0,w1',lw,tp,aJr]
      |_=>cases w1
    |_=>cases w0
noncomputable def plB(n:Int):PyData->Bool
 |.int i=>decide (0<=i)&&decide (i<n)
 |_=>false
theorem kT(n:Int)(x:PyData)(M:Sto):gE [I n,.d x] M=some (B (plB n x),M):=by
 cases x with
 |int i=>
  cases h:decide (0<=i)with
  |true=>
   rw[show plB n (.int i)=(decide (0<=i)&&decide (i<n))from rfl,h,E7];simp![gE,nW,nY,qE,h]
  |false=>
   rw[show plB n (.int i)=(decide (0<=i)&&decide (i<n))from rfl,h,J9];simp![gE,nW,nY,qE,h]
 |_=>rfl
noncomputable def bI(n:Int)(d:PyData):Option (Int×Int):=match aQ d with
 |some [.int i,.int j,a]=>if (decide (0<=i)&&decide (i<j)&&decide (j<n)&&hZ a)=true then some (i,j)else none
 |_=>none
noncomputable def RD(n:Int):PyData->PyData->Bool
 |.int i,.int j=>decide (0<=i)&&decide (i<j)&&decide (j<n)
 |_,_=>false
theorem AM(n i j:Int)(M:Sto):bJ [I n,I i,I j] M=some (B (plB n (.int i)&&(plB n (.int j)&&!(i==j))),M):=by
 cases h1:plB n (.int i)<;>cases h2:plB n (.int j)<;>simp![bJ,dO,kT,h1,h2,nM,Bool.true_and,Bool.false_and]
theorem rL(n:Int)(x y:PyData)(M:Sto)(h:plB n x=false\/plB n y=false):bJ [I n,.d x,.d y] M=some (B false,M):=by
 cases h1:plB n x with
 |false=>simp![bJ,dO,kT,h1]
 |true=>
  have h2:plB n y=false:=h.resolve_left (by rw[h1];decide);simp![bJ,dO,kT,h1,h2]
theorem aGb(ds:List PyData)(h:((ds.length:Int)==3)=true):∃a b c,ds=[a,b,c]:=by
 rcases ds with _|⟨a,_|⟨b,_|⟨c,_|⟨d,r⟩⟩⟩⟩
 .simp at h
 .simp at h
 .simp at h
 .exact⟨a,b,c,rfl⟩
 .simp at h;omega
theorem zO{n:Int}(h:aQ x=some ds)(h2:((ds.length:Int)==3)=false):bI n x=none:=by
 unfold bI;rw[h];rcases ds with _|⟨a,_|⟨b,_|⟨c,_|⟨d,r⟩⟩⟩⟩
 .rfl
 .cases a<;>rfl
 .cases a<;>first|rfl|(cases b<;>rfl)
 .simp at h2
 .cases a<;>first|rfl|(cases b<;>rfl)
theorem zU{n:Int}{a b c:PyData}(h:aQ x=some [a,b,c]):(bI n x).isSome=(RD n a b&&hZ c):=by
 unfold bI;rw[h];cases a with
 |int i=>
  cases b with
  |int j=>
   show(if (decide (0<=i)&&decide (i<j)&&decide (j<n)&&hZ c)=true then some (i,j)else none).isSome=(decide (0<=i)&&decide (i<j)&&decide (j<n)&&hZ c);cases (decide (0<=i)&&decide (i<j)&&decide (j<n)&&hZ c)<;>rfl
  |_=>rfl
 |_=>cases b<;>rfl
theorem aFO(n i j:Int):(plB n (.int i)&&(plB n (.int j)&&!(i==j))&&decide (i<j))=(decide (0<=i)&&decide (i<j)&&decide (j<n)):=by
 unfold plB;by_cases h1:0<=i
 .by_cases h2:i<j
  .by_cases h3:j<n
   .have a:i<n:=by omega
    have b:0<=j:=by omega
    have c:(i==j)=false:=by rw[O1];omega
    simp[h1,h2,h3,a,b,c]
   .simp[h3]
  .simp[h2]
 .simp[h1]
theorem aAQ(n i j:Int)(M:Sto){c:PyData}(h:aQ x=some [.int i,.int j,c]):bG [I n,.d x] M=some (B (RD n (.int i) (.int j)),M):=by
 have r:fN x 3=true:=by unfold fN;rw[h];rfl
 have i0:∀M,ixF (.d x) (I 0) M=some (I i,M):=fun M=>cT h;have i1:∀M,ixF (.d x) (I 1) M=some (I j,M):=fun M=>cT h;rw[show RD n (.int i) (.int j)=(decide (0<=i)&&decide (i<j)&&decide (j<n))from rfl,<- aFO];cases u:(plB n (.int i)&&(plB n (.int j)&&!(i==j)))with
 |false=>simp![bG,cO,cQ,r,i0,i1,AM,u,Bool.false_and]
 |true=>simp![bG,cO,cQ,r,i0,i1,AM,u,Bool.true_and]
theorem RN(n:Int)(M:Sto){a b c:PyData}(h:aQ x=some [a,b,c])(q:plB n a=false\/plB n b=false):bG [I n,.d x] M=some (B false,M):=by
 have r:fN x 3=true:=by unfold fN;rw[h];rfl
 have i0:∀M,ixF (.d x) (I 0) M=some (.d a,M):=fun M=>cT h;have i1:∀M,ixF (.d x) (I 1) M=some (.d b,M):=fun M=>cT h;simp![bG,cO,cQ,r,i0,i1,rL n a b _ q]
theorem WX(n:Int)(M:Sto)(r:fN x 3=false):bG [I n,.d x] M=some (B false,M):=by
 simp![bG,cO,cQ,r]
noncomputable abbrev HY:EF:=(lT (aK bG (aB (aD 0) (aB (aD 1) aG))) (aK fY (aB (fOp ixF (aD 1) (fC (.int 2))) aG)))
theorem aIt(n:Int)(x:PyData)(M:Sto):HY [some (I n),some (.d x)] M=some (B (bI n x).isSome,M):=by
 cases hi:aQ x with
 |none=>
  have e:bI n x=none:=by unfold bI;rw[hi]
  have b:=WX n M (x:=x) (by unfold fN;rw[hi]);rw[e];simp![HY,b];rfl
 |some ds=>
  cases h3:((ds.length:Int)==3)with
  |false=>
   have b:=WX n M (x:=x) (by unfold fN;rw[hi];exact h3);rw[zO hi h3];simp![HY,b];rfl
  |true=>
   obtain⟨a,b,c,rfl⟩:=aGb ds h3;have i2:∀M,ixF (.d x) (I 2) M=some (.d c,M):=fun M=>cT hi;rw[zU hi]
   have no:∀(q:plB n a=false\/plB n b=false),RD n a b=false->HY [some (I n),some (.d x)] M=some (B (RD n a b&&hZ c),M):=fun q e=>by
    have bt:=RN n M hi q;rw[e,J9];simp![HY,bt]
   cases a with
   |int i=>
    cases b with
    |int j=>
     have bt:=aAQ n i j M hi;cases w:RD n (.int i) (.int j)with
     |false=>rw[w]at bt;simp![HY,bt,Bool.false_and]
     |true=>rw[w]at bt;simp![HY,bt,i2,LL,Bool.true_and]
    |_=>exact no (.inr rfl) rfl
   |_=>exact no (.inl rfl) rfl
theorem sz{k:Nat}(h:k<=1000):k<=sizeLine:=by rw[E4];omega
theorem CY(bs:List Bool):boolsOf (bs.map .bool)=some bs:=by
 induction bs with
 |nil=>rfl
 |cons b bs ih=>
  show(boolsOf (bs.map .bool)).bind _=_;rw[ih];rfl
theorem kS:∀ds:List PyData,mW (ds.map .d)=some ds
 |[]=>rfl
 |d::ds=>by
  show(mW (ds.map .d)).map (d::·)=_;rw[kS ds];rfl
theorem QD(n:Int)(M:Sto):∀(ds:List PyData)(g:Option CD),lcF (hName 1) jH HY (ds.map .d) [some (I n),g] M=some ((ds.map fun d=>PyData.bool (bI n d).isSome).map .d,M)
 |[]=>fun g=>rfl
 |d::ds=>fun g=>by
  have ih:=QD n M ds (some (.d d));rw[B7,B7,B7];unfold lcF;rw[show hName 1 (.d d) [some (I n),g] M=some ([some (I n),some (.d d)],M)from rfl,A0];dsimp only;rw[show jH [some (I n),some (.d d)] M=some (true,M)from rfl,A0];dsimp only;rw[A3 rfl,aIt,A0];dsimp only;rw[ih];rfl
theorem tP{cap:List (Option Nat)}{f:AF}{c:TF}{xs:List CD}(it:f γ M=some (xs,M))(hl:xs.length<=sizeLine)(lc:lcF g c ee xs (CC cap γ) M=some (ys.map .d,M))(hy:ys.length<=sizeLine):fLc cap f g c ee γ M=some (.d (.list ys),M):=by
 unfold fLc fP DA;rw[it,A0];dsimp only;rw[A3 hl,lc,A0];dsimp only;rw[kS,A0,A3 hy]
theorem EM{f:EF}(h:aQ x=some ds)(hf:f γ M=some (.d x,M)):fU f γ M=some (ds.map .d,M):=by
 unfold fU;rw[hf,A0];dsimp only;rw[h];rfl
theorem aJk{n:Int}(h:aQ x=some ds)(hl:ds.length<=1000):xW [some (I n),some (.d x)] M=some (.d (.list (ds.map fun d=>PyData.bool (bI n d).isSome)),M):=
 tP (EM h rfl) (sz (by rw[A2];exact hl)) (QD n M ds none) (sz (by rw[A2];exact hl))
theorem aEh(ds:List PyData)(p:PyData->Bool)(M:Sto):LM [.d (.list (ds.map fun d=>PyData.bool (p d)))] M=some (B (ds.all p),M):=by
 have:=CY (ds.map p);rw[O9]at this;show(boolsOf (ds.map (PyData.bool ∘ p))).bind _=_;rw[this,A0,List.all_map];rfl
noncomputable abbrev Ed:=Int×Int
noncomputable abbrev at0(l:List Int)(p:Int):Int:=l.getD p.toNat 0
noncomputable def eB(l:List Int)(t:Ed):List Int:=l.map (fun z=>if z=at0 l t.2 then at0 l t.1 else z)
noncomputable def zs(n:Nat):List Int:=(List.range n).map Int.ofNat
noncomputable abbrev Inn(n:Nat)(p:Int):Prop:=0<=p/\p<n
theorem nL(l:List Int)(t:Ed):(eB l t).length=l.length:=by simp[eB]
theorem tQ(n:Nat):(zs n).length=n:=by simp[zs]
theorem DC(h:Inn n p):at0 (zs n) p=p:=by
 have:p.toNat<n:=by omega
 simp only[at0,zs,List.getD_eq_getElem?_getD,List.getElem?_map,List.getElem?_range this,Option.map_some,Option.getD_some];show((p.toNat:Nat):Int)=p;omega
theorem zs_mem:q∈zs n↔Inn n q:=by
 unfold zs;rw[List.mem_map];constructor
 .rintro⟨k,hk,rfl⟩;have:=List.mem_range.mp hk;exact⟨Int.natCast_nonneg k,by show((k:Nat):Int)<n;omega⟩
 .intro h;exact⟨q.toNat,List.mem_range.mpr (by omega),by show((q.toNat:Nat):Int)=q;omega⟩
theorem ZF(n:Nat):(zs n).Nodup:=by
 unfold zs;rw[S3,Z5];exact(List.nodup_iff_pairwise_ne.mp List.nodup_range).imp fun h e=>h (by have:((_:Nat):Int)=((_:Nat):Int):=e;omega)
theorem eO{t:Ed}(hl:l.length=n)(hp:Inn n p):at0 (eB l t) p=if at0 l p=at0 l t.2 then at0 l t.1 else at0 l p:=by
 have hp':p.toNat<l.length:=by omega
 unfold eB;simp only[at0,List.getD_eq_getElem?_getD,List.getElem?_map,List.getElem?_eq_getElem hp',Option.map_some,Option.getD_some]
noncomputable abbrev Oks(n:Nat)(us:List Ed):Prop:=∀t∈us,Inn n t.1/\Inn n t.2
theorem KG{n:Nat}:∀(us:List Ed)(l:List Int),l.length=n->Oks n us->∀p q,Inn n p->Inn n q->((p,q)∈us\/at0 l p=at0 l q)->at0 (us.foldl eB l) p=at0 (us.foldl eB l) q
 |[]=>fun l _ _ p q _ _ h=>by
  rcases h with h|h
  .cases h
  .exact h
 |u::us=>fun l hl ok p q hp hq h=>by
  rw[U4];refine KG us (eB l u) (by rw[nL,hl]) (fun t ht=>ok t (A9 _ ht)) p q hp hq ?_;rcases h with h|h
  .rcases List.mem_cons.mp h with e|ht
   .right
    subst e;rw[eO hl hp,eO hl hq,A3 rfl];split<;>rfl
   .exact .inl ht
  .right
   rw[eO hl hp,eO hl hq,h]
theorem BW{n:Nat}{S:Int->Prop}:∀(us:List Ed)(l:List Int),l.length=n->Oks n us->(∀t∈us,(S t.1↔S t.2))->(∀p q,Inn n p->Inn n q->at0 l p=at0 l q->(S p↔S q))->
 ∀p q,Inn n p->Inn n q->at0 (us.foldl eB l) p=at0 (us.foldl eB l) q->(S p↔S q)
 |[]=>fun l _ _ _ h=>h
 |u::us=>fun l hl ok cl h=>by
  rw[U4];refine BW us (eB l u) (by rw[nL,hl]) (fun t ht=>ok t (A9 _ ht)) (fun t ht=>cl t (A9 _ ht)) ?_;intro p q hp hq e;obtain⟨ui,uj⟩:=ok u (B0 ..);rw[eO hl hp,eO hl hq]at e;have c:=cl u (B0 ..);by_cases h1:at0 l p=at0 l u.2
  .rw[A3 h1]at e;by_cases h2:at0 l q=at0 l u.2
   .exact h p q hp hq (h1.trans h2.symm)
   .rw[A7 h2]at e;exact(h p u.2 hp uj h1).trans (c.symm.trans (h u.1 q ui hq e))
  .rw[A7 h1]at e;by_cases h2:at0 l q=at0 l u.2
   .rw[A3 h2]at e;exact(h p u.1 hp ui e).trans (c.trans (h u.2 q uj hq h2.symm))
   .rw[A7 h2]at e;exact h p q hp hq e
noncomputable def gS(n:Nat)(us:List Ed):List Int:=us.foldl eB (zs n)
theorem xU{us:List Ed}{S:Int->Prop}(ok:Oks n us)(cl:∀t∈us,(S t.1↔S t.2))(hp:Inn n p)(hq:Inn n q)(e:at0 (gS n us) p=at0 (gS n us) q):S p↔S q:=
 BW us (zs n) (tQ n) ok cl (fun p q hp hq e=>by rw[DC hp,DC hq]at e;rw[e]) p q hp hq e
theorem wG{us:List Ed}(ok:Oks n us){t:Ed}(ht:t∈us):at0 (gS n us) t.1=at0 (gS n us) t.2:=
 KG us (zs n) (tQ n) ok t.1 t.2 (ok t ht).1 (ok t ht).2 (.inl ht)
structure Lb(n:Nat)(l:List Int):Prop where
 len:l.length=n
 inn:∀p,Inn n p->Inn n (at0 l p)
 own:∀p,Inn n p->at0 l (at0 l p)=at0 l p
theorem Lb.start(n:Nat):Lb n (zs n):=⟨tQ n,fun p hp=>by rw[DC hp];exact hp,fun p hp=>by rw[DC hp,DC hp]⟩
theorem Lb.next{t:Ed}(h:Lb n l)(h1:Inn n t.1)(h2:Inn n t.2):Lb n (eB l t):=by
 refine⟨by rw[nL,h.len],fun p hp=>?_,fun p hp=>?_⟩
 .rw[eO h.len hp];split
  .exact h.inn _ h1
  .exact h.inn _ hp
 .rw[eO h.len hp];by_cases e:at0 l p=at0 l t.2
  .rw[A3 e,eO h.len (h.inn _ h1),h.own _ h1];split<;>rfl
  .rw[A7 e,eO h.len (h.inn _ hp),h.own _ hp,A7 e]
noncomputable def roots(n:Nat)(l:List Int):Nat:=(zs n).countP fun p=>at0 l p==p
theorem DB{r:Int}{f g:Int->Bool}:∀xs:List Int,xs.Nodup->r∈xs->(∀p∈xs,p≠r->f p=g p)->g r=true->f r=false->xs.countP f+1=xs.countP g
 |[]=>fun _ h _ _ _=>by cases h
 |x::xs=>fun nd h e gr fr=>by
  rw[List.nodup_cons]at nd;have same:∀ys:List Int,(∀p∈ys,f p=g p)->ys.countP f=ys.countP g:=fun ys hy=>List.countP_congr fun p hp=>by rw[hy p hp]
  by_cases q:x=r
  .subst q;rw[List.countP_cons,List.countP_cons,gr,fr,same xs fun p hp=>e p (A9 _ hp) fun z=>nd.1 (z▸hp)];simp
  .have hr:r∈xs:=(List.mem_cons.mp h).resolve_left fun z=>q z.symm;have ih:=DB xs nd.2 hr (fun p hp=>e p (A9 _ hp)) gr fr;rw[List.countP_cons,List.countP_cons,e x (B0 ..) q];omega
theorem BK{t:Ed}(h:Lb n l)(h1:Inn n t.1)(h2:Inn n t.2)(ne:at0 l t.1≠at0 l t.2):roots n (eB l t)+1=roots n l:=by
 refine DB (r:=at0 l t.2) _ (ZF n) (zs_mem.mpr (h.inn _ h2)) (fun p hp q=>?_) ?_ ?_
 .have hp:=zs_mem.mp hp;rw[eO h.len hp];by_cases e:at0 l p=at0 l t.2
  .rw[A3 e,e];have a:(at0 l t.2==p)=false:=by rw[O1];exact fun z=>q z.symm
   have b:(at0 l t.1==p)=false:=by
    rw[O1];intro z;have:=h.own _ h1;rw[z,e,<- z]at this;exact ne this.symm
   rw[a,b]
  .rw[A7 e]
 .rw[h.own _ h2,Z0]
 .rw[eO h.len (h.inn _ h2),h.own _ h2,A3 rfl,O1];exact ne
theorem BE{t:Ed}(e:at0 l t.1=at0 l t.2):eB l t=l:=by
 unfold eB;rw[e]
 conv=>rhs;rw[<- List.map_id l]
 refine Y5 fun z _=>?_;split
 .rename_i h;exact h.symm
 .rfl
noncomputable def pJ:List Int->List Ed->Bool
 |_,[]=>true
 |l,t::us=>!(at0 l t.1==at0 l t.2)&&pJ (eB l t) us
theorem JZ{n:Nat}:∀(us:List Ed)(l:List Int),Lb n l->Oks n us->Lb n (us.foldl eB l)/\roots n l<=roots n (us.foldl eB l)+us.length/\(pJ l us=true↔roots n l=roots n (us.foldl eB l)+us.length)
 |[]=>fun l h _=>⟨h,A6 _,by simp[pJ]⟩
 |t::us=>fun l h ok=>by
  obtain⟨h1,h2⟩:=ok t (B0 ..);rw[U4];obtain⟨a,b,c⟩:=JZ us (eB l t) (h.next h1 h2) fun u hu=>ok u (A9 _ hu);refine⟨a,?_,?_⟩
  .by_cases e:at0 l t.1=at0 l t.2
   .rw[BE e]at b ⊢;rw[D0];omega
   .have:=BK h h1 h2 e;rw[D0];omega
  .unfold pJ;by_cases e:at0 l t.1=at0 l t.2
   .rw[show(at0 l t.1==at0 l t.2)=true from beq_iff_eq.mpr e];rw[BE e]at b ⊢;rw[D0];constructor
    .intro z;simp at z
    .intro z;omega
   .have:=BK h h1 h2 e;rw[show(at0 l t.1==at0 l t.2)=false from beq_eq_false_iff_ne.mpr e,D0];rw[Bool.not_false,E7,c];omega
theorem VI(n:Nat):roots n (zs n)=n:=by
 unfold roots
 have:(zs n).countP (fun p=>at0 (zs n) p==p)=(zs n).length:=List.countP_eq_length.mpr fun p hp=>by
  rw[DC (zs_mem.mp hp),Z0]
 rw[this,tQ]
theorem RV(h:Lb n l)(h0:0<n):roots n l=1↔∀p,Inn n p->at0 l p=at0 l 0:=by
 have i0:Inn n 0:=⟨by omega,by omega⟩
 have rt:∀p,Inn n p->at0 l p∈(zs n).filter fun p=>at0 l p==p:=fun p hp=>by
  rw[List.mem_filter,zs_mem,Z0];exact⟨h.inn p hp,h.own p hp⟩
 constructor
 .intro e p hp;unfold roots at e;rw[List.countP_eq_length_filter]at e;obtain⟨c,hc⟩:=List.length_eq_one_iff.mp e;have a:=rt p hp;have b:=rt 0 i0;rw[hc,D2]at a b;rw[a,b]
 .intro e;unfold roots;rw[List.countP_eq_length_filter]
  have:(zs n).filter (fun p=>at0 l p==p)=[at0 l 0]:=by
   have nd:((zs n).filter fun p=>at0 l p==p).Nodup:=(ZF n).filter fun p=>at0 l p==p
   have all:∀x∈(zs n).filter (fun p=>at0 l p==p),x=at0 l 0:=fun x hx=>by
    rw[List.mem_filter,zs_mem,Z0]at hx;rw[<- e x hx.1];exact hx.2.symm
   have mem:=rt 0 i0;generalize (zs n).filter (fun p=>at0 l p==p)=xs at nd all mem;rcases xs with _|⟨x,_|⟨y,ys⟩⟩
   .cases mem
   .rw[all x (B0 ..)]
   .rw[List.nodup_cons]at nd;exact absurd (List.mem_cons.mpr (.inl ((all x (B0 ..)).trans (all y (by simp)).symm))) nd.1
  rw[this];rfl
theorem wO{us:List Ed}(h0:0<n)(hl:us.length+1=n)(ok:Oks n us):pJ (zs n) us=true↔∀p,Inn n p->at0 (gS n us) p=at0 (gS n us) 0:=by
 obtain⟨a,b,c⟩:=JZ us (zs n) (Lb.start n) ok;rw[VI]at b c;rw[c];show _↔∀p,Inn n p->at0 (us.foldl eB (zs n)) p=at0 (us.foldl eB (zs n)) 0;rw[<- RV a h0];omega
noncomputable abbrev Adj:=List (List (Int×Int))
noncomputable def CV(A:Adj)(p:Int)(q:Int×Int):Adj:=A.set p.toNat (A.getD p.toNat []++[q])
noncomputable def KD(A:Adj)(t:Ed)(k:Int):Adj:=CV (CV A t.1 (t.2,k)) t.2 (t.1,k)
noncomputable def jV:Adj->Nat->List Ed->Adj
 |A,_,[]=>A
 |A,k,t::us=>jV (KD A t (k:Nat)) (k+1) us
noncomputable def sG(n:Nat)(us:List Ed):Adj:=jV (List.replicate n []) 0 us
theorem BB(A:Adj)(p:Int)(q:Int×Int):(CV A p q).length=A.length:=by simp[CV]
theorem zF(A:Adj)(t:Ed)(k:Int):(KD A t k).length=A.length:=by simp[KD,BB]
theorem BX:∀(us:List Ed)(A:Adj)(k:Nat),(jV A k us).length=A.length
 |[]=>fun _ _=>rfl
 |t::us=>fun A k=>by unfold jV;rw[BX us,zF]
theorem PU{A:Adj}{q:Int×Int}(hl:A.length=n)(hp:Inn n p)(hr:Inn n r)(x:Int×Int):x∈(CV A p q).getD r.toNat []↔(x∈A.getD r.toNat []\/(p=r/\x=q)):=by
 have hr':r.toNat<A.length:=by omega
 unfold CV;rw[B6,List.getElem?_set];by_cases h:p.toNat=r.toNat
 .have e:p=r:=by omega
  subst e;rw[A3 rfl,A3 hr',Option.getD_some,List.mem_append,D2];simp
 .have e:p≠r:=fun e=>h (by rw[e]);rw[A7 h,<- B6];simp[e]
noncomputable def Lies(us:List Ed)(k:Nat)(r x m:Int):Prop:=∃(j:Nat)(t:Ed),us[j]?=some t/\m=((k+j:Nat):Int)/\((t.1=r/\t.2=x)\/(t.2=r/\t.1=x))
theorem TM{t:Ed}{us:List Ed}{k:Nat}{x m:Int}:Lies (t::us) k r x m↔(m=(k:Nat)/\((t.1=r/\t.2=x)\/(t.2=r/\t.1=x)))\/Lies us (k+1) r x m:=by
 constructor
 .rintro⟨j,u,h1,h2,h3⟩;cases j with
  |zero=>
   rw[List.getElem?_cons_zero]at h1;cases h1;exact .inl ⟨by simpa using h2,h3⟩
  |succ j=>
   rw[List.getElem?_cons_succ]at h1;exact .inr ⟨j,u,h1,by rw[h2];congr 1;omega,h3⟩
 .rintro(⟨h1,h2⟩|⟨j,u,h1,h2,h3⟩)
  .exact⟨0,t,rfl,by simpa using h1,h2⟩
  .exact⟨j+1,u,by rw[List.getElem?_cons_succ];exact h1,by rw[h2];congr 1;omega,h3⟩
theorem QH{n:Nat}:∀(us:List Ed)(A:Adj)(k:Nat),A.length=n->Oks n us->∀r x m,Inn n r->((x,m)∈(jV A k us).getD r.toNat []↔((x,m)∈A.getD r.toNat []\/Lies us k r x m))
 |[]=>fun A k _ _ r x m _=>by
  unfold jV Lies;simp
 |t::us=>fun A k hl ok r x m hr=>by
  obtain⟨ti,tj⟩:=ok t (B0 ..);unfold jV;rw[QH us (KD A t (k:Nat)) (k+1) (by rw[zF,hl]) (fun s hs=>ok s (A9 _ hs)) r x m hr,TM];unfold KD;rw[PU (by rw[BB,hl]) tj hr,PU hl ti hr];simp only[Prod.mk.injEq];constructor
  .rintro(((h|⟨h1,h2,h3⟩)|⟨h1,h2,h3⟩)|h)
   .exact .inl h
   .exact .inr (.inl ⟨h3,.inl ⟨h1,h2.symm⟩⟩)
   .exact .inr (.inl ⟨h3,.inr ⟨h1,h2.symm⟩⟩)
   .exact .inr (.inr h)
  .rintro(h|⟨h1,⟨h2,h3⟩|⟨h2,h3⟩⟩|h)
   .exact .inl (.inl (.inl h))
   .exact .inl (.inl (.inr ⟨h2,h3.symm,h1⟩))
   .exact .inl (.inr ⟨h2,h3.symm,h1⟩)
   .exact .inr h
theorem uG{us:List Ed}(ok:Oks n us){x m:Int}(hr:Inn n r):(x,m)∈(sG n us).getD r.toNat []↔Lies us 0 r x m:=by
 unfold sG;rw[QH us _ 0 (by simp) ok r x m hr]
 have:(List.replicate n ([]:List (Int×Int))).getD r.toNat []=[]:=by
  rw[B6,Z1];split<;>rfl
 rw[this];simp
structure Sc where
 fs:List Int
 ws:List Int
 ss:List (Int×Int×Int)
noncomputable def see(u:Int)(s:Sc)(x:Int×Int):Sc:=if x.1∈s.fs then s else⟨s.fs++[x.1],s.ws++[x.1],s.ss++[(u,x.1,x.2)]⟩
theorem IA{n:Nat}{P:Int->Prop}{u:Int}:∀(xs:List (Int×Int))(s:Sc),(∀x∈xs,Inn n x.1/\P x.1)->s.fs.Nodup->(∀x∈s.fs,Inn n x/\P x)->
 ∃new:List (Int×Int),xs.foldl (see u) s=⟨s.fs++new.map (·.1),s.ws++new.map (·.1),s.ss++new.map fun y=>(u,y.1,y.2)⟩/\(s.fs++new.map (·.1)).Nodup/\(∀y∈new,y∈xs)/\(∀x∈xs,x.1∈s.fs++new.map (·.1))
 |[]=>fun s _ nd _=>⟨[],by simp,by simpa using nd,(by intro x hx;cases hx),(by intro x hx;cases hx)⟩
 |x::xs=>fun s hx nd hf=>by
  rw[U4];have hx':∀y∈xs,Inn n y.1/\P y.1:=fun y hy=>hx y (A9 _ hy);by_cases h:x.1∈s.fs
  .have e:see u s x=s:=by unfold see;rw[A3 h]
   rw[e];obtain⟨new,h1,h2,h3,h4⟩:=IA (u:=u) xs s hx' nd hf;refine⟨new,h1,h2,fun y hy=>A9 _ (h3 y hy),fun y hy=>?_⟩;rcases List.mem_cons.mp hy with rfl|hy
   .exact C9 _ h
   .exact h4 y hy
  .have e:see u s x=⟨s.fs++[x.1],s.ws++[x.1],s.ss++[(u,x.1,x.2)]⟩:=by unfold see;rw[A7 h]
   rw[e]
   have nd':(s.fs++[x.1]).Nodup:=by
    rw[U7];exact⟨nd,by simp,fun a ha b hb=>by rw[D2]at hb;rw[hb];exact fun q=>h (q▸ha)⟩
   have hf':∀y∈s.fs++[x.1],Inn n y/\P y:=fun y hy=>by
    rcases List.mem_append.mp hy with hy|hy
    .exact hf y hy
    .rw[D2]at hy;rw[hy];exact hx x (B0 ..)
   obtain⟨new,h1,h2,h3,h4⟩:=IA (u:=u) xs ⟨s.fs++[x.1],s.ws++[x.1],s.ss++[(u,x.1,x.2)]⟩ hx' nd' hf';refine⟨x::new,?_,?_,?_,?_⟩
   .rw[h1];simp
   .simpa using h2
   .intro y hy;rcases List.mem_cons.mp hy with rfl|hy
    .exact B0 ..
    .exact A9 _ (h3 y hy)
   .intro y hy;have r:s.fs++[x.1]++new.map (·.1)=s.fs++(x::new).map (·.1):=by simp
    rw[<- r];rcases List.mem_cons.mp hy with rfl|hy
    .exact C9 _ (C0 _ (List.mem_singleton.mpr rfl))
    .exact h4 y hy
structure xZ(n:Nat)(A:Adj)(P:Int->Prop)(p:Int)(s:Sc):Prop where
 nd:s.fs.Nodup
 ok:∀x∈s.fs,Inn n x/\P x
 has:p∈s.fs
 sub:∀x∈s.ws,x∈s.fs
 cl:∀u∈s.fs,u∈s.ws\/∀v∈A.getD u.toNat [],v.1∈s.fs
 st:s.fs=p::s.ss.map (·.2.1)
 od:∀(q:Nat)(h t a:Int),s.ss[q]?=some (h,t,a)->h∈p::(s.ss.take q).map (·.2.1)/\(t,a)∈A.getD h.toNat []
theorem xZ.start{A:Adj}{P:Int->Prop}(hp:Inn n p)(h:P p):xZ n A P p ⟨[p],[p],[]⟩:=
 ⟨by simp,fun x hx=>by rw[D2]at hx;rw[hx];exact⟨hp,h⟩,List.mem_singleton.mpr rfl,fun x hx=>hx,fun u hu=>.inl hu,rfl,fun q h t a e=>by cases e⟩
theorem xZ.step{A:Adj}{P:Int->Prop}{fs:List Int}{ss:List (Int×Int×Int)}(h:xZ n A P p ⟨fs,ws++[u],ss⟩)(hA:∀x y,Inn n x->P x->y∈A.getD x.toNat []->Inn n y.1/\P y.1):
 ∃new:List (Int×Int),(A.getD u.toNat []).foldl (see u) ⟨fs,ws,ss⟩=⟨fs++new.map (·.1),ws++new.map (·.1),ss++new.map fun y=>(u,y.1,y.2)⟩/\(∀y∈new,y∈A.getD u.toNat [])/\xZ n A P p ⟨fs++new.map (·.1),ws++new.map (·.1),ss++new.map fun y=>(u,y.1,y.2)⟩:=by
 have hu:=h.ok u (h.sub u (C0 _ (List.mem_singleton.mpr rfl)));obtain⟨new,h1,h2,h3,h4⟩:=IA (n:=n) (P:=P) (u:=u) (A.getD u.toNat []) ⟨fs,ws,ss⟩ (fun x hx=>hA u x hu.1 hu.2 hx) h.nd h.ok;refine⟨new,h1,h3,h2,fun x hx=>?_,C9 _ h.has,fun x hx=>?_,fun v hv=>?_,?_,fun q g t a e=>?_⟩
 .rcases List.mem_append.mp hx with hx|hx
  .exact h.ok x hx
  .obtain⟨y,hy,rfl⟩:=List.mem_map.mp hx;exact hA u y hu.1 hu.2 (h3 y hy)
 .rcases List.mem_append.mp hx with hx|hx
  .exact C9 _ (h.sub x (C9 _ hx))
  .exact C0 _ hx
 .rcases List.mem_append.mp hv with hv|hv
  .rcases h.cl v hv with w|w
   .rcases List.mem_append.mp w with w|w
    .exact .inl (C9 _ w)
    .rw[D2]at w;rw[w];exact .inr h4
   .exact .inr fun y hy=>C9 _ (w y hy)
  .exact .inl (C0 _ hv)
 .have:=h.st;dsimp only at this ⊢;rw[this,D3,O9,List.cons_append];rfl
 .dsimp only at e ⊢;by_cases lt:q<ss.length
  .rw[J7 lt]at e;rw[List.take_append_of_le_length (Z3 lt)];exact h.od q g t a e
  .rw[B2 (by omega),C8]at e;obtain⟨y,hy,e⟩:=Option.map_eq_some_iff.mp e;cases e;refine⟨?_,h3 y (L7 hy)⟩;have hu2:=h.sub u (C0 _ (List.mem_singleton.mpr rfl));have st:=h.st;dsimp only at hu2 st;rw[st]at hu2;rcases List.mem_cons.mp hu2 with z|z
   .rw[z];exact B0 ..
   .refine A9 _ ?_;rw[List.take_append];rw[List.take_of_length_le (by omega),D3];exact C9 _ z
theorem sY{fs:List Int}(nd:fs.Nodup)(ok:∀x∈fs,Inn n x):fs.length<=n:=by
 have h2:=List.Nodup.length_le_of_subset nd (l₂:=zs n) fun x hx=>zs_mem.mpr (ok x hx)
 rwa [tQ]at h2
theorem vZ{fs:List Int}(nd:fs.Nodup)(ok:∀x∈fs,Inn n x):fs.length=n↔∀p,Inn n p->p∈fs:=by
 constructor
 .intro e p hp;refine Classical.byContradiction fun h=>?_
  have:=sY (n:=n) (fs:=p::fs) (List.nodup_cons.mpr ⟨h,nd⟩) (fun x hx=>by
   rcases List.mem_cons.mp hx with rfl|hx
   .exact hp
   .exact ok x hx)
  rw[D0]at this;omega
 .intro e;have h1:=sY nd ok;have h2:=List.Nodup.length_le_of_subset (ZF n) (l₂:=fs) fun x hx=>e x (zs_mem.mp hx);rw[tQ]at h2;omega
theorem IY{us:List Ed}{k:Nat}{x m:Int}(h:Lies us k r x m):(r,x)∈us\/(x,r)∈us:=by
 obtain⟨j,t,h1,_,h3⟩:=h;have ht:=L7 h1;rcases h3 with⟨rfl,rfl⟩|⟨rfl,rfl⟩
 .exact .inl ht
 .exact .inr ht
theorem aFu{us:List Ed}(ok:Oks n us)(x:Int)(y:Int×Int)(hx:Inn n x)(e:at0 (gS n us) x=at0 (gS n us) p)(hy:y∈(sG n us).getD x.toNat []):Inn n y.1/\at0 (gS n us) y.1=at0 (gS n us) p:=by
 rcases IY ((uG ok hx).mp (show(y.1,y.2)∈_ from hy))with h|h
 .exact⟨(ok _ h).2,by rw[<- e];exact(wG ok h).symm⟩
 .exact⟨(ok _ h).1,by rw[<- e];exact wG ok h⟩
theorem xZ.done{us:List Ed}{fs:List Int}{ss:List (Int×Int×Int)}(ok:Oks n us)(hp:Inn n p)
 (h:xZ n (sG n us) (fun q=>at0 (gS n us) q=at0 (gS n us) p) p ⟨fs,[],ss⟩):fs.length=n↔∀q,Inn n q->at0 (gS n us) q=at0 (gS n us) p:=by
 have cl:∀u∈fs,∀v∈(sG n us).getD u.toNat [],v.1∈fs:=fun u hu v hv=>by
  rcases h.cl u hu with w|w
  .cases w
  .exact w v hv
 have S:∀t∈us,(t.1∈fs↔t.2∈fs):=fun t ht=>by
  obtain⟨j,hj⟩:=O8 ht;exact⟨fun hi=>cl t.1 hi (t.2,((0+j:Nat):Int)) ((uG ok (ok t ht).1).mpr ⟨j,t,hj,rfl,.inl ⟨rfl,rfl⟩⟩),fun hi=>cl t.2 hi (t.1,((0+j:Nat):Int)) ((uG ok (ok t ht).2).mpr ⟨j,t,hj,rfl,.inr ⟨rfl,rfl⟩⟩)⟩
 rw[vZ h.nd fun x hx=>(h.ok x hx).1];exact⟨fun e q hq=>(h.ok q (e q hq)).2,fun e q hq=>(xU (S:=(·∈fs)) ok S hq hp (e q hq)).mpr h.has⟩
noncomputable abbrev pD(p:Int×Int):CD:=.d (.tuple [.int p.1,.int p.2])
noncomputable def wM(l:List (Int×Int)):Cell:=.lst (l.map pD)
noncomputable abbrev StA(M:Sto)(A:Adj)(c:Cell):Sto:=M++(A.map wM++[c])
theorem NM{A:Adj}{c:Cell}{k:Nat}(h:k<A.length):(StA M A c)[M.length+k]?=some (wM (A.getD k [])):=by
 unfold StA;rw[B2 (J6 ..),F5,J7 (by rw[A2];exact h),C8,B6,B8 h];rfl
theorem PQ{A:Adj}{c:Cell}:(StA M A c)[M.length+A.length]?=some c:=by
 unfold StA;rw[B2 (J6 ..),F5,B2 (by rw[A2];exact A6 _),A2,D4];rfl
theorem aBb{A:Adj}{c:Cell}{k:Nat}{l:List (Int×Int)}(h:k<A.length):(StA M A c).set (M.length+k) (wM l)=StA M (A.set k l) c:=by
 unfold StA;rw[D7 _ _ (J6 ..),F5,List.set_append_left _ _ (by rw[A2];exact h),List.map_set]
noncomputable def bY(b n:Nat):List CD:=(List.range n).map fun k=>.c (b+k)
theorem oR{α:Type}{xs:List α}{k:Nat}{x:α}(h:xs[k]?=some x):atI xs (k:Int)=some x:=by
 have hk:k<xs.length:=(List.getElem?_eq_some_iff.mp h).1;unfold atI ixN;rw[A3 (Int.natCast_nonneg k),A3 (by omega),A0,I0,h]
theorem JT{b:Nat}(h:Inn n p):atI (bY b n) p=some (.c (b+p.toNat)):=by
 have:p.toNat<n:=by omega
 have e:p=((p.toNat:Nat):Int):=by omega
 rw[e];refine oR ?_;rw[I0];unfold bY;rw[C8,List.getElem?_range this];rfl
theorem JL{A:Adj}(hA:A.length=n)(h:Inn n p):ixF (.c (M.length+n)) (I p) (StA M A (.lst (bY M.length n)))=some (.c (M.length+p.toNat),StA M A (.lst (bY M.length n))):=by
 have e:=PQ (M:=M) (A:=A) (c:=.lst (bY M.length n));rw[hA]at e;simp only[ixF,e,JT h,Option.bind_some]
theorem OY{A:Adj}{c:Cell}{q:Int×Int}(hA:A.length=n)(h:Inn n p)(hl:(A.getD p.toNat []).length<1000):bZ (.c (M.length+p.toNat)) [.d (.tuple [.int q.1,.int q.2])] (StA M A c)=some (.d .none,StA M (CV A p q) c):=by
 have hp:p.toNat<A.length:=by omega
 have e:=NM (M:=M) (c:=c) hp;have l:((A.getD p.toNat []).map pD).length<sizeLine:=by rw[A2,E4];exact C3 hl (by decide)
 have s:=aBb (M:=M) (c:=c) (l:=A.getD p.toNat []++[q]) hp;unfold wM at e s;rw[D3,E8]at s;simp only[bZ,e,if_pos l,s];rfl
theorem XJ{A:Adj}{c:Cell}(hA:A.length=n)(h:Inn n p):tyB "list" (StA M A c) (.c (M.length+p.toNat))=true:=by
 have e:=NM (M:=M) (c:=c) (show p.toNat<A.length by omega);unfold wM at e;simp only[tyB,e];decide
theorem DK:∀(n:Nat)(xs:List CD)(g:Option CD)(M:Sto),xs.length=n->lcF (hName 0) jH (kK aG) xs [g] M=some (bY M.length n,M++(List.replicate n ([]:List (Int×Int))).map wM)
 |0,[],g,M,_=>by simp[lcF,bY]
 |n+1,x::xs,g,M,h=>by
  have ih:=DK n xs (some x) (M++[.lst []]) (by simpa using h);simp only[lcF,hName,jH,kK,aG,Option.bind_some,if_true,List.length_nil,Nat.zero_le,List.set_cons_zero,ih,List.length_append,List.length_singleton];refine F6 some (Prod.ext ?_ ?_)
  .unfold bY;rw[List.range_succ_eq_map,B7,O9];refine F6 (List.cons _) (Y5 fun k _=>?_);exact F6 CD.c (by show M.length+1+k=M.length+(k+1);omega)
  .rw[C2,List.replicate_succ,B7];rfl
theorem yJ(lo:Int)(n:Nat):(fF lo n).length=n:=by simp[fF]
theorem vI{A:Adj}{q:Int×Int}{k:Nat}(h:∀r,(A.getD r []).length<=k):∀r,((CV A p q).getD r []).length<=k+1:=by
 intro r;unfold CV;rw[B6,List.getElem?_set];split
 .split
  .rw[Option.getD_some,B4,C6];exact Nat.add_le_add_right (h _) 1
  .exact E5 _
 .rw[<- B6];exact Nat.le_succ_of_le (h r)
theorem uR{n:Int}{t:Ed}(h:bI n d=some t):∃a,aQ d=some [.int t.1,.int t.2,a]/\hZ a=true/\0<=t.1/\t.1<t.2/\t.2<n:=by
 unfold bI at h;split at h
 .rename_i i j a e;split at h
  .rename_i c;cases h;simp only[Bool.and_eq_true,decide_eq_true_eq]at c;exact⟨a,e,c.2,c.1.1.1,c.1.1.2,c.1.2⟩
  .cases h
 .cases h
theorem qK{t:Ed}(h:bI n d=some t):Inn n t.1/\Inn n t.2:=by
 obtain⟨_,_,_,h1,h2,h3⟩:=uR h;exact⟨⟨by omega,by omega⟩,⟨by omega,by omega⟩⟩
theorem IW{M:Sto}{A:Adj}{t:Ed}{m:Int}{x0:CD}(hA:A.length=n)(hd:bI n d=some t){k:Nat}(hk:∀r,(A.getD r []).length<=k)(k1:k<500):
 gY [some x0,some (.c (M.length+n)),some (I m),some (.d d)] (StA M A (.lst (bY M.length n)))=some (.nx [some x0,some (.c (M.length+n)),some (I m),some (.d d)],StA M (KD A t m) (.lst (bY M.length n))):=by
 obtain⟨a,hi,_⟩:=uR hd;obtain⟨h1,h2⟩:=qK hd;have i0:∀M,ixF (.d d) (I 0) M=some (I t.1,M):=fun M=>cT hi;have i1:∀M,ixF (.d d) (I 1) M=some (I t.2,M):=fun M=>cT hi;have hA':(CV A t.1 (t.2,m)).length=n:=by rw[BB,hA]
 have a1:=OY (M:=M) (c:=.lst (bY M.length n)) (q:=(t.2,m)) hA h1 (by have:=hk t.1.toNat;omega);have a2:=OY (M:=M) (c:=.lst (bY M.length n)) (q:=(t.1,m)) hA' h2 (by have:=vI (p:=t.1) (q:=(t.2,m)) hk t.2.toNat;omega);have s2:(2:Nat)<=sizeLine:=by decide
 simp![gY,bU,i0,i1,JL hA h1,XJ hA h1,a1,JL hA' h2,XJ hA' h2,a2,s2];rfl
theorem UH(d:PyData)(ds:List PyData)(k:Nat):((d::ds).zipIdx k).map (fun p=>CD.d (.tuple [.int (p.2:Nat),p.1]))=.d (.tuple [.int (k:Nat),d])::(ds.zipIdx (k+1)).map (fun p=>CD.d (.tuple [.int (p.2:Nat),p.1])):=rfl
theorem xC{M:Sto}{n:Nat}{x0:CD}:∀(ds:List PyData)(us:List Ed)(A:Adj)(k c:Nat)(g2 g3:Option CD),A.length=n->ds.mapM (bI n)=some us->(∀r,(A.getD r []).length<=k)->k+2*ds.length<500->
 ∃g2' g3',iI (lB 2 (bT (hName 2) (bT (hName 3) lR))) gY ((ds.zipIdx c).map (fun p=>CD.d (.tuple [.int (p.2:Nat),p.1]))) [some x0,some (.c (M.length+n)),g2,g3] (StA M A (.lst (bY M.length n)))=some (.nx [some x0,some (.c (M.length+n)),g2',g3'],StA M (jV A c us) (.lst (bY M.length n)))
 |[]=>fun us A k c g2 g3 _ hm _ _=>by
  cases hm;exact⟨g2,g3,rfl⟩
 |d::ds=>fun us A k c g2 g3 hA hm hk hl=>by
  rw[U0]at hm;obtain⟨t,hd,hm⟩:=aH hm;obtain⟨us',hm',hm⟩:=aH hm;cases hm;rw[D0]at hl;have tn:=IW (M:=M) (x0:=x0) (m:=(c:Nat)) hA hd hk (by omega);obtain⟨a,b,h⟩:=xC (M:=M) (x0:=x0) ds us' (KD A t (c:Nat)) (k+2) (c+1) (some (I (c:Nat))) (some (.d d)) (by rw[zF,hA]) hm' (fun r=>vI (vI hk) r) (by omega);refine⟨a,b,?_⟩;unfold jV;rw[<- h,UH]
  conv=>lhs;unfold iI
  simp![tn]
theorem kL(h0:0<=J)(h1:J<=1000):cG J=true:=by
 simp only[cG,Bool.and_eq_true,decide_eq_true_eq];omega
theorem aBH{cap:List (Option Nat)}{f:AF}{c:TF}{M1 M2:Sto}{xs ys:List CD}(it:f γ M=some (xs,M1))(hl:xs.length<=sizeLine)(lc:lcF g c ee xs (CC cap γ) M1=some (ys,M2))(hy:ys.length<=sizeLine):aAy cap f g c ee γ M=some (.c M2.length,M2++[.lst ys]):=by
 unfold aAy kK DA;rw[it,A0];dsimp only;rw[A3 hl,lc,A0];dsimp only;rw[A3 hy]
theorem aFv{x:CD}(hl:eF [x] M=some (I J,M))(sm:cG (J+1)=true):cZ (aB (fOp cC (aK eF (aB (aD 0) aG)) (fC (.int 1))) aG) (some x::γ) M=some (fF 0 (J+1).toNat,M):=by
 have ad:cC (I J) (I 1) M=some (I (J+1),M):=rfl;simp![cZ,hl,ad,sm]
theorem ZX{us:List Ed}{M:Sto}(hi:aQ x=some ds)(hn:ds.length+1=n)(n40:n<=40)(hm:ds.mapM (bI n)=some us):
 iZ [.d x] M=some (.c (M.length+n),StA M (sG n us) (.lst (bY M.length n))):=by
 have sm:cG ((ds.length:Int)+1)=true:=kL (by omega) (by omega);have rl:(fF 0 n).length<=sizeLine:=by rw[yJ];exact sz (by omega)
 have cl:(bY M.length n).length<=sizeLine:=by unfold bY;rw[A2,U8];exact sz (by omega)
 have nc:=DK n (fF 0 n) none M (yJ 0 n)
 have r0:cZ (aB (fOp cC (aK eF (aB (aD 0) aG)) (fC (.int 1))) aG) [some (.d x),none,none,none] M=some (fF 0 n,M):=by
  have:=aFv (γ:=[none,none,none]) (M:=M) (dI hi) sm;rw[show((ds.length:Int)+1).toNat=n by omega]at this;exact this
 have c0:jS [some (.d x),none,none,none] M=some (.c (M.length+n),StA M (List.replicate n []) (.lst (bY M.length n))):=by
  unfold jS;rw[aBH r0 rl nc cl,C2];refine F6 some (Prod.ext (F6 CD.c ?_) rfl);show(M++(List.replicate n ([]:List (Int×Int))).map wM).length=M.length+n;rw[B4,A2,List.length_replicate]
 obtain⟨g2,g3,lp⟩:=xC (M:=M) (n:=n) (x0:=.d x) ds us (List.replicate n []) 0 0 none none (by simp) hm (fun r=>by rw[B6,Z1];split<;>simp) (by omega)
 have it:KN (aB (aD 0) aG) [some (.d x),some (.c (M.length+n)),none,none] (StA M (List.replicate n []) (.lst (bY M.length n)))=some ((ds.zipIdx 0).map (fun p=>CD.d (.tuple [.int (p.2:Nat),p.1])),StA M (List.replicate n []) (.lst (bY M.length n))):=by
  unfold KN;show((aQ x).bind _)=_;rw[hi];rfl
 simp![iZ,mT,c0,kW,it,lp,sG]
noncomputable abbrev T1:CD:=.d (.bool true)
noncomputable def kvs(fs:List Int):List (Key×CD):=fs.map fun x=>((.inl x:Key),T1)
theorem XI(fs:List Int)(x:Int):(lkC (kvs fs) (.inl x:Key)).isSome=decide (x∈fs):=by
 unfold lkC kvs;rw[Option.isSome_map]
 induction fs with
 |nil=>rfl
 |cons y fs ih=>
  rw[B7,List.find?_cons];by_cases h:y=x
  .subst h;simp
  .have h1:¬((Sum.inl y:Key)=Sum.inl x):=fun e=>h (Z9 e);rw[C1 h1];dsimp only;rw[ih];have:(x∈y::fs)↔x∈fs:=by rw[List.mem_cons];exact⟨fun q=>q.resolve_left (fun e=>h e.symm),.inr⟩
   exact decide_eq_decide.mpr this.symm
theorem OA{fs:List Int}{x:Int}(h:x∉fs):putD (kvs fs) (.inl x:Key) T1=kvs (fs++[x]):=by
 unfold putD
 have:((kvs fs).any fun kv=>decide (kv.1=(Sum.inl x:Key)))=false:=by
  rw[List.any_eq_false];intro kv hkv;obtain⟨y,hy,rfl⟩:=List.mem_map.mp hkv;rw[D8];exact fun e=>h (Z9 e▸hy)
 rw[this,A7 (by decide)];unfold kvs;rw[D3,E8]
noncomputable abbrev sD(t:Int×Int×Int):CD:=.d (.tuple [.int t.1,.int t.2.1,.int t.2.2])
noncomputable def wC(ws:List Int):Cell:=.lst (ws.map fun i=>I i)
noncomputable def sC(ss:List (Int×Int×Int)):Cell:=.lst (ss.map sD)
noncomputable abbrev Sts(N:Sto)(s:Sc):Sto:=N++[.dk (kvs s.fs),wC s.ws,sC s.ss]
section
variable{N:Sto}{s:Sc}
theorem aDP:(Sts N s)[N.length]?=some (.dk (kvs s.fs)):=by
 unfold Sts;rw[B2 (A6 _),D4];rfl
theorem QA:(Sts N s)[N.length+1]?=some (wC s.ws):=by
 unfold Sts;rw[B2 (J6 ..),F5];rfl
theorem YX:(Sts N s)[N.length+2]?=some (sC s.ss):=by
 unfold Sts;rw[B2 (J6 ..),F5];rfl
theorem ZE{fs':List Int}:(Sts N s).set N.length (.dk (kvs fs'))=Sts N { s with fs:=fs' }:=by
 unfold Sts;rw[D7 _ _ (A6 _),D4];rfl
theorem KR{ws':List Int}:(Sts N s).set (N.length+1) (wC ws')=Sts N { s with ws:=ws' }:=by
 unfold Sts;rw[D7 _ _ (J6 ..),F5];rfl
theorem YZ{ss':List (Int×Int×Int)}:(Sts N s).set (N.length+2) (sC ss')=Sts N { s with ss:=ss' }:=by
 unfold Sts;rw[D7 _ _ (J6 ..),F5];rfl
theorem LX{k:Nat}{c:Cell}(h:N[k]?=some c):(Sts N s)[k]?=some c:=by
 unfold Sts;rw[J7 (List.getElem?_eq_some_iff.mp h).1];exact h
theorem aIx{x:Int}(hw:s.ws.length<1000):bZ (.c (N.length+1)) [I x] (Sts N s)=some (.d .none,Sts N { s with ws:=s.ws++[x] }):=by
 have l2:(s.ws.map fun i=>I i).length<sizeLine:=by rw[A2,E4];omega
 have w:=QA (N:=N) (s:=s);have z:=KR (N:=N) (s:=s) (ws':=s.ws++[x]);unfold wC at w z;rw[D3,E8]at z;simp only[bZ,w,if_pos l2];exact F6 (fun y=>some (CD.d .none,y)) z
theorem aIH:tyB "list" (Sts N s) (.c (N.length+1))=true:=by
 have w:=QA (N:=N) (s:=s);unfold wC at w;simp only[tyB,w];decide
theorem aIP{c:Int}(hw:s.ss.length<1000):bZ (.c (N.length+2)) [.d (.tuple [.int a,.int b,.int c])] (Sts N s)=some (.d .none,Sts N { s with ss:=s.ss++[(a,b,c)] }):=by
 have l2:(s.ss.map sD).length<sizeLine:=by rw[A2,E4];omega
 have w:=YX (N:=N) (s:=s);have z:=YZ (N:=N) (s:=s) (ss':=s.ss++[(a,b,c)]);unfold sC at w z;rw[D3,E8]at z;simp only[bZ,w,if_pos l2];exact F6 (fun y=>some (CD.d .none,y)) z
theorem aJt:tyB "list" (Sts N s) (.c (N.length+2))=true:=by
 have w:=YX (N:=N) (s:=s);unfold sC at w;simp only[tyB,w];decide
end
noncomputable abbrev GR(x st b:CD)(D:Nat)(g6 g7 g8:Option CD):Ga:=[some x,some st,some b,some (.c D),some (.c (D+1)),some (.c (D+2)),g6,g7,g8]
theorem WJ{N:Sto}{s:Sc}{u:Int}{y:Int×Int}{x0 st b:CD}(hf:s.fs.length<1000)(hw:s.ws.length<1000)(hs:s.ss.length<1000):
 eA (GR x0 st b N.length (some (I u)) (some (I y.1)) (some (I y.2))) (Sts N s)=some (.nx (GR x0 st b N.length (some (I u)) (some (I y.1)) (some (I y.2))),Sts N (see u s y)):=by
 have l1:(kvs s.fs).length<sizeLine:=by unfold kvs;rw[A2,E4];omega
 have a1:atD (Sts N s) (.c N.length) (.inl (.inl y.1))=some (lkC (kvs s.fs) (.inl y.1:Key)):=by simp only[atD,aDP]
 have k1:keyOf (I y.1)=some (.inl y.1):=rfl;have lk:=XI s.fs y.1;by_cases h:y.1∈s.fs
 .rw[B1 h]at lk;have e:see u s y=s:=by unfold see;rw[A3 h]
  rw[e];simp![eA,pN,gA,k1,a1,lk]
 .rw[C1 h]at lk;have e:see u s y=⟨s.fs++[y.1],s.ws++[y.1],s.ss++[(u,y.1,y.2)]⟩:=by unfold see;rw[A7 h]
  rw[e]
  have s1:yH (Sts N s) (.c N.length) (.inl (.inl y.1)) (.d (.bool true))=some (Sts N { s with fs:=s.fs++[y.1] }):=by
   simp only[yH,aDP,if_pos l1,OA h,ZE]
  have p1:=aIx (N:=N) (s:={ s with fs:=s.fs++[y.1] }) (x:=y.1) hw;have t1:=aIH (N:=N) (s:={ s with fs:=s.fs++[y.1] });have p2:=aIP (N:=N) (s:={ s with fs:=s.fs++[y.1],ws:=s.ws++[y.1] }) (a:=u) (b:=y.1) (c:=y.2) hs;have t2:=aJt (N:=N) (s:={ s with fs:=s.fs++[y.1],ws:=s.ws++[y.1] });have s3:(3:Nat)<=sizeLine:=by decide
  simp![eA,pN,gA,k1,a1,lk,kN,s1,bU,t1,p1,t2,p2,s3]
theorem aBB(u:Int)(s:Sc)(x:Int×Int):(see u s x).fs.length<=s.fs.length+1/\(see u s x).ws.length<=s.ws.length+1/\(see u s x).ss.length<=s.ss.length+1:=by
 unfold see;split
 .exact⟨A0a _,A0a _,A0a _⟩
 .simp
theorem JY{N:Sto}{P:Sto->Prop}{x0 st b:CD}{u:Int}(hP:∀s,P (Sts N s)):∀(xs:List (Int×Int))(s:Sc)(g7 g8:Option CD),s.fs.length+xs.length<1000->s.ws.length+xs.length<1000->s.ss.length+xs.length<1000->
 ∃g7' g8',yF P (lB 2 (bT (hName 7) (bT (hName 8) lR))) eA (xs.map pD) (GR x0 st b N.length (some (I u)) g7 g8) (Sts N s)=some (.nx (GR x0 st b N.length (some (I u)) g7' g8'),Sts N (xs.foldl (see u) s))
 |[]=>fun s g7 g8 _ _ _=>⟨g7,g8,by unfold yF;rw[List.map_nil];exact A3 (hP s)⟩
 |x::xs=>fun s g7 g8 hf hw hs=>by
  rw[D0]at hf hw hs;have tn:=WJ (N:=N) (s:=s) (u:=u) (y:=x) (x0:=x0) (st:=st) (b:=b) (by omega) (by omega) (by omega);obtain⟨l1,l2,l3⟩:=aBB u s x;obtain⟨g7',g8',h⟩:=JY (x0:=x0) (st:=st) (b:=b) hP xs (see u s x) (some (I x.1)) (some (I x.2)) (by omega) (by omega) (by omega);refine⟨g7',g8',?_⟩;rw[U4,<- h,B7]
  conv=>lhs;unfold yF
  rw[A3 (hP s)];show(lB 2 (bT (hName 7) (bT (hName 8) lR)) (pD x) (GR x0 st b N.length (some (I u)) g7 g8) (Sts N s)).bind _=_;rw[show lB 2 (bT (hName 7) (bT (hName 8) lR)) (pD x) (GR x0 st b N.length (some (I u)) g7 g8) (Sts N s)=some (GR x0 st b N.length (some (I u)) (some (I x.1)) (some (I x.2)),Sts N s)from rfl,A0];dsimp only;rw[tn,A0]
structure vR(N:Sto)(b n:Nat)(A:Adj):Prop where
 row:N[b+n]?=some (.lst (bY b n))
 at_:∀p:Int,Inn n p->N[b+p.toNat]?=some (wM (A.getD p.toNat []))
theorem vR.new{A:Adj}(h:A.length=n):vR (StA M A (.lst (bY M.length n))) M.length n A:=
 ⟨by have:=PQ (M:=M) (A:=A) (c:=.lst (bY M.length n));rw[h]at this;exact this,fun p hp=>NM (by omega)⟩
theorem QO:∀(us:List Ed)(A:Adj)(k c:Nat),(∀r,(A.getD r []).length<=k)->∀r,((jV A c us).getD r []).length<=k+2*us.length
 |[]=>fun A k c h r=>by simpa[jV]using h r
 |t::us=>fun A k c h r=>by
  unfold jV;have:=QO us (KD A t (c:Nat)) (k+2) (c+1) (fun r=>vI (vI h) r) r;rw[D0];omega
theorem VY{us:List Ed}(hl:us.length<64)(r:Nat):((sG n us).getD r []).length<130:=by
 have:=QO us (List.replicate n []) 0 0 (fun r=>by rw[B6,Z1];split<;>simp) r;unfold sG;omega
noncomputable abbrev wB:SF:=(aO (aZ (bU "list" jD (aD 4) aG) (hName 6)) (DR (sA (fOp ixF (aD 2) (aD 6))) (lB 2 (bT (hName 7) (bT (hName 8) lR))) eA))
section
variable{N:Sto}{b n:Nat}{A:Adj}{x0 st:CD}
theorem aBE{fs:List Int}{ss:List (Int×Int×Int)}{g6 g7 g8:Option CD}(hN:vR N b n A)(hu:Inn n u)(hA:(A.getD u.toNat []).length<130)(hf:fs.length<=100)(hw:ws.length<=100)(hs:ss.length<=100):
 ∃g6' g7' g8',wB (GR x0 st (.c (b+n)) N.length g6 g7 g8) (Sts N ⟨fs,ws++[u],ss⟩)=some (.nx (GR x0 st (.c (b+n)) N.length g6' g7' g8'),Sts N ((A.getD u.toNat []).foldl (see u) ⟨fs,ws,ss⟩)):=by
 have w:=QA (N:=N) (s:=⟨fs,ws++[u],ss⟩);have s:=KR (N:=N) (s:=⟨fs,ws++[u],ss⟩) (ws':=ws);unfold wC at w s;have ty:=aIH (N:=N) (s:=⟨fs,ws++[u],ss⟩)
 have po:jD (.c (N.length+1)) [] (Sts N ⟨fs,ws++[u],ss⟩)=some (I u,Sts N ⟨fs,ws,ss⟩):=by
  have e1:((ws++[u]).map fun i=>I i)[((ws++[u]).map fun i=>I i).length-1]?=some (I u):=by
   rw[A2,B4,C6,Nat.add_sub_cancel,C8,B2 (A6 _),D4];rfl
  have e2:((ws++[u]).map fun i=>I i).dropLast=ws.map fun i=>I i:=by
   rw[D3,E8,List.dropLast_concat]
  simp only[jD,w,e1,e2,Option.bind_some];exact F6 (fun y=>some (I u,y)) s
 have ix:ixF (.c (b+n)) (I u) (Sts N ⟨fs,ws,ss⟩)=some (.c (b+u.toNat),Sts N ⟨fs,ws,ss⟩):=by
  have:=LX (s:=⟨fs,ws,ss⟩) hN.row;simp only[ixF,this,JT hu,Option.bind_some]
 have wk:walked (Sts N ⟨fs,ws,ss⟩) (.c (b+u.toNat))=some ((A.getD u.toNat []).map pD,fun M'=>M'[b+u.toNat]?=some (wM (A.getD u.toNat []))):=by
  have:=LX (s:=⟨fs,ws,ss⟩) (hN.at_ u hu);unfold wM at this ⊢;simp only[walked,this]
 obtain⟨g7',g8',lp⟩:=JY (N:=N) (P:=fun M'=>M'[b+u.toNat]?=some (wM (A.getD u.toNat []))) (x0:=x0) (st:=st) (b:=.c (b+n)) (u:=u) (fun s=>LX (hN.at_ u hu)) (A.getD u.toNat []) ⟨fs,ws,ss⟩ g7 g8 (by show fs.length+_<_;omega) (by show ws.length+_<_;omega) (by show ss.length+_<_;omega);refine⟨some (I u),g7',g8',?_⟩
 have sf:DR (sA (fOp ixF (aD 2) (aD 6))) (lB 2 (bT (hName 7) (bT (hName 8) lR))) eA (GR x0 st (.c (b+n)) N.length (some (I u)) g7 g8) (Sts N ⟨fs,ws,ss⟩)=some (.nx (GR x0 st (.c (b+n)) N.length (some (I u)) g7' g8'),Sts N ((A.getD u.toNat []).foldl (see u) ⟨fs,ws,ss⟩)):=by
  have i1:fOp ixF (aD 2) (aD 6) (GR x0 st (.c (b+n)) N.length (some (I u)) g7 g8) (Sts N ⟨fs,ws,ss⟩)=some (.c (b+u.toNat),Sts N ⟨fs,ws,ss⟩):=by
   simp![ix]
  unfold DR sA;rw[i1,A0];dsimp only;rw[wk,A0,A0];exact lp
 unfold wB aO aZ;simp![bU,ty,po,sf]
theorem aHs{s:Sc}:nA (aD 4) (GR x0 st (.c (b+n)) N.length g6 g7 g8) (Sts N s)=some (!s.ws.isEmpty,Sts N s):=by
 have w:=QA (N:=N) (s:=s);unfold wC at w;simp![w];rw[List.isEmpty_map]
theorem OK{P:Int->Prop}{p:Int}(hN:vR N b n A)(n40:n<=40)(hA:∀x y,Inn n x->P x->y∈A.getD x.toNat []->Inn n y.1/\P y.1)(hF:∀r,(A.getD r []).length<130):∀(m:Nat)(s:Sc)(g6 g7 g8:Option CD),xZ n A P p s->s.ws.length<=s.fs.length->2*(n-s.fs.length)+s.ws.length<m->
 ∃fs' ss' g6' g7' g8',xZ n A P p ⟨fs',[],ss'⟩/\eY (nA (aD 4)) wB m (GR x0 st (.c (b+n)) N.length g6 g7 g8) (Sts N s)=some (.nx (GR x0 st (.c (b+n)) N.length g6' g7' g8'),Sts N ⟨fs',[],ss'⟩)
 |0,_=>fun _ _ _ _ _ h=>by omega
 |m+1,⟨fs,ws,ss⟩=>fun g6 g7 g8 h wl hm=>by
  have few:=sY h.nd fun x hx=>(h.ok x hx).1;have sl:ss.length+1=fs.length:=by have:=F6 List.length h.st;simpa using this.symm
  dsimp only at few wl hm;unfold eY;rw[aHs,A0];rcases List.eq_nil_or_concat ws with rfl|⟨ws0,u,rfl⟩
  .exact⟨fs,ss,g6,g7,g8,h,by simp⟩
  .rw[List.concat_eq_append]at h wl hm ⊢;rw[B4,C6]at wl hm;have hu:=(h.ok u (h.sub u (C0 _ (List.mem_singleton.mpr rfl)))).1;obtain⟨new,e,_,h'⟩:=h.step hA;have few':=sY h'.nd fun x hx=>(h'.ok x hx).1;obtain⟨a6,a7,a8,t⟩:=aBE (x0:=x0) (st:=st) (fs:=fs) (ws:=ws0) (ss:=ss) (g6:=g6) (g7:=g7) (g8:=g8) hN hu (hF _) (by omega) (by omega) (by omega);rw[e]at t;dsimp only at few';rw[B4]at few';obtain⟨fs',ss',b6,b7,b8,d,r⟩:=OK hN n40 hA hF m _ a6 a7 a8 h' (by dsimp only;rw[B4,B4];omega) (by dsimp only;rw[B4,B4];omega);refine⟨fs',ss',b6,b7,b8,d,?_⟩;have ne:(!(ws0++[u]).isEmpty)=true:=by simp
   dsimp only;rw[ne,A3 rfl,t,A0];exact r
end
theorem OD{us:List Ed}{M:Sto}(hi:aQ x=some ds)(hn:ds.length+1=n)(n40:n<=40)(hm:ds.mapM (bI n)=some us)(ok:Oks n us)(hp:Inn n p)(hul:us.length<64):
 ∃fs ss L c,eP [.d x,I p] M=some (.c c,M++L)/\M.length<=c/\(M++L)[c]?=some (sC ss)/\xZ n (sG n us) (fun q=>at0 (gS n us) q=at0 (gS n us) p) p ⟨fs,[],ss⟩:=by
 have bs:=ZX (M:=M) hi hn n40 hm;generalize hN0:StA M (sG n us) (.lst (bY M.length n))=N at bs
 have hN:vR N M.length n (sG n us):=by
  rw[<- hN0];exact vR.new (by unfold sG;rw[BX,List.length_replicate])
 obtain⟨fs,ss,g6,g7,g8,d,wl⟩:=OK (x0:=.d x) (st:=I p) (P:=fun q=>at0 (gS n us) q=at0 (gS n us) p) (p:=p) hN n40 (aFu ok) (VY hul) (2*(n-1)+2) ⟨[p],[p],[]⟩ none none none (xZ.start hp rfl) (A6 _) (by show 2*(n-1)+1<_;omega);have wl':rF (GR (.d x) (I p) (.c (M.length+n)) N.length none none none) (Sts N ⟨[p],[p],[]⟩)=some (.nx (GR (.d x) (I p) (.c (M.length+n)) N.length g6 g7 g8),Sts N ⟨fs,[],ss⟩):=uL wl
 have c0:pS [((aD 1),(fC (.bool true)))] [some (.d x),some (I p),some (.c (M.length+n)),none,none,none,none,none,none] N=some (.c N.length,N++[.dk (kvs [p])]):=by
  unfold pS;rw[show AU [((aD 1),(fC (.bool true)))] [some (.d x),some (I p),some (.c (M.length+n)),none,none,none,none,none,none] (N++[.dk []])=some ([(I p,.d (.bool true))],N++[.dk []])from rfl,A0];dsimp only;rw[B2 (A6 _),D4];show(some [((.inl p:Key),CD.d (.bool true))]).bind _=_;rw[A0,A3 (by simp),D7 _ _ (A6 _),D4];rfl
 have s1:(1:Nat)<=sizeLine:=by decide
 have s0:(0:Nat)<=sizeLine:=by decide
 have e1:(N++[Cell.dk (kvs [p])]).length=N.length+1:=by rw[B4];rfl
 have e2:N++[Cell.dk (kvs [p])]++[Cell.lst [I p]]=N++[Cell.dk (kvs [p]),wC [p]]:=by rw[C2];rfl
 have e3:(N++[Cell.dk (kvs [p]),wC [p]]).length=N.length+2:=by rw[B4];rfl
 have e4:N++[Cell.dk (kvs [p]),wC [p]]++[Cell.lst []]=Sts N ⟨[p],[p],[]⟩:=by rw[C2];rfl
 have hNM:N=M++((sG n us).map wM++[.lst (bY M.length n)]):=hN0.symm;refine⟨fs,ss,((sG n us).map wM++[.lst (bY M.length n)])++[.dk (kvs fs),wC [],sC ss],N.length+2,?_,by rw[hNM,B4];omega,?_,d⟩
 .rw[<- C2,<- hNM];simp![eP,oQ,bs,c0,s1,s0,e1,e2,e3,e4,wl']
 .rw[<- C2,<- hNM];exact YX (N:=N) (s:=⟨fs,[],ss⟩)
noncomputable def mR(p q:Ed):Bool:=if p.1=q.1 then decide (p.2<q.2)else decide (p.1<q.1)
theorem ZO(p q:Ed):cY [.int p.1,.int p.2] [.int q.1,.int q.2]=some (mR p q):=by
 unfold mR;show(if (p.1==q.1)=true then(if (p.2==q.2)=true then some (decide (0<0))else some (decide (p.2<q.2)))else some (decide (p.1<q.1)))=_;by_cases h1:p.1=q.1
 .rw[A3 (beq_iff_eq.mpr h1),A3 h1];by_cases h2:p.2=q.2
  .rw[A3 (beq_iff_eq.mpr h2),h2];simp
  .rw[A7 (fun z=>h2 (beq_iff_eq.mp z))]
 .rw[A7 (fun z=>h1 (beq_iff_eq.mp z)),A7 h1]
theorem RI(p q:Ed)(M:Sto):ltX (pD p) (pD q) M=some (B (mR p q),M):=by
 show(cY [.int p.1,.int p.2] [.int q.1,.int q.2]).bind _=_;rw[ZO];rfl
noncomputable abbrev pP(p:Ed):PyData:=.tuple [.int p.1,.int p.2]
noncomputable def zl:List Ed->List Bool
 |a::b::r=>mR a b::zl (b::r)
 |_=>[]
noncomputable def ris(us:List Ed):Bool:=(zl us).all id
theorem WY:∀us:List Ed,(zl us).length<=us.length
 |[]=>A6 _
 |[_]=>E5 _
 |a::b::r=>Nat.succ_le_succ (WY (b::r))
theorem aAN(M:Sto):∀(us:List Ed)(g0 g1:Option CD),lcF (lB 2 (bT (hName 0) (bT (hName 1) lR))) jH (fOp ltX (aD 0) (aD 1)) (sF (us.map pP) ((us.map pP).drop 1)) [g0,g1] M=some (((zl us).map PyData.bool).map .d,M)
 |[]=>fun _ _=>rfl
 |[_]=>fun _ _=>rfl
 |a::b::r=>fun g0 g1=>by
  have ih:=aAN M (b::r) (some (pD a)) (some (pD b));rw[show sF ((a::b::r).map pP) (((a::b::r).map pP).drop 1)=.d (.tuple [pP a,pP b])::sF ((b::r).map pP) (((b::r).map pP).drop 1)from rfl];unfold lcF;rw[show lB 2 (bT (hName 0) (bT (hName 1) lR)) (.d (.tuple [pP a,pP b])) [g0,g1] M=some ([some (pD a),some (pD b)],M)from rfl,A0];dsimp only;rw[show jH [some (pD a),some (pD b)] M=some (true,M)from rfl,A0];dsimp only;rw[A3 rfl,show fOp ltX (aD 0) (aD 1) [some (pD a),some (pD b)] M=ltX (pD a) (pD b) M from rfl,RI,A0];dsimp only;rw[ih];rfl
theorem aJl(ds:List PyData):eD ds (some 1) none=ds.drop 1:=by
 unfold eD;rw[HT.sIx_none,show(1:Int)=((1:Nat):Int)from rfl,HT.sIx_nat];cases ds with
 |nil=>rfl
 |cons d ds=>
  rw[show min 1 (d::ds).length=1 by rw[D0];omega];rw[List.take_of_length_le];simp
theorem QJ:∀(xs ys:List PyData),(sF xs ys).length<=xs.length
 |[],_=>E5 _
 |_::_,[]=>E5 _
 |_::xs,_::ys=>Nat.succ_le_succ (QJ xs ys)
theorem aAf(us:List Ed)(M:Sto)(hl:us.length<=1000):mC [.d (.list (us.map pP))] M=some (B (ris us),M):=by
 have z:aCF (aB (aD 0) (aB (fSl (aD 0) (dW (fC (.int 1))) bV) aG)) [some (.d (.list (us.map pP)))] M=some (sF (us.map pP) ((us.map pP).drop 1),M):=by
  rw[<- aJl];rfl
 have c:nE [some (.d (.list (us.map pP)))] M=some (.d (.list ((zl us).map PyData.bool)),M):=by
  unfold nE;exact tP z (sz (F0 (QJ _ _) (by rw[A2];exact hl))) (aAN M us none none) (sz (by rw[A2];exact F0 (WY us) hl))
 have a:LM [.d (.list ((zl us).map PyData.bool))] M=some (B (ris us),M):=by
  show(boolsOf ((zl us).map PyData.bool)).bind _=_;rw[CY];rfl
 simp![mC,qL,c,a]
theorem lF{n:Int}{us:List Ed}(h:(d::ds).mapM (bI n)=some us):∃t us',bI n d=some t/\ds.mapM (bI n)=some us'/\us=t::us':=by
 rw[U0]at h;obtain⟨t,hd,h⟩:=aH h;obtain⟨us',h',h⟩:=aH h;cases h;exact⟨t,us',hd,h',rfl⟩
theorem qP{n:Int}:∀{ds:List PyData}{us:List Ed},ds.mapM (bI n)=some us->us.length=ds.length
 |[],us=>fun h=>by cases h;rfl
 |d::ds,us=>fun h=>by
  obtain⟨t,us',_,h',rfl⟩:=lF h;rw[D0,D0,qP h']
theorem KP(n:Int):∀ds:List PyData,(ds.all fun d=>(bI n d).isSome)=(ds.mapM (bI n)).isSome
 |[]=>rfl
 |d::ds=>by
  rw[U5,KP n ds,U0];cases bI n d with
  |none=>rfl
  |some t=>cases ds.mapM (bI n)<;>rfl
theorem nS{n:Nat}:∀{ds:List PyData}{us:List Ed},ds.mapM (bI n)=some us->Oks n us
 |[],us=>fun h=>by cases h;intro t ht;cases ht
 |d::ds,us=>fun h=>by
  obtain⟨t,us',hd,h',rfl⟩:=lF h;intro s hs;rcases List.mem_cons.mp hs with rfl|hs
  .exact qK hd
  .exact nS h' s hs
theorem KQ{n:Int}(M:Sto):∀(ds:List PyData)(us:List Ed)(g:Option CD),ds.mapM (bI n)=some us->lcF (hName 0) jH (bL (aB (fOp ixF (aD 0) (fC (.int 0))) (aB (fOp ixF (aD 0) (fC (.int 1))) aG))) (ds.map .d) [g] M=some ((us.map pP).map .d,M)
 |[]=>fun us g h=>by cases h;rfl
 |d::ds=>fun us g h=>by
  obtain⟨t,us',hd,h',rfl⟩:=lF h;have ih:=KQ M ds us' (some (.d d)) h';obtain⟨a,hi,_⟩:=uR hd;have i0:∀M,ixF (.d d) (I 0) M=some (I t.1,M):=fun M=>cT hi;have i1:∀M,ixF (.d d) (I 1) M=some (I t.2,M):=fun M=>cT hi;have s2:(2:Nat)<=sizeLine:=by decide
  rw[B7,B7,B7];unfold lcF;simp![jH,i0,i1,s2,ih]
theorem aJg{n:Int}{us:List Ed}(h:aQ x=some ds)(hm:ds.mapM (bI n)=some us)(hl:ds.length<=1000):wY [some x0,some (.d x)] M=some (.d (.list (us.map pP)),M):=
 tP (EM h rfl) (sz (by rw[A2];exact hl)) (KQ M ds us none hm) (sz (by rw[A2,qP hm];exact hl))
noncomputable def eN(n:Nat)(x:PyData):Bool:=match aQ x with
 |some ds=>decide (ds.length+1=n)&&(match ds.mapM (bI n)with
  |some us=>ris us&&pJ (zs n) us
  |none=>false)
 |none=>false
theorem RT(h0:0<n)(n40:n<=40)(x:PyData)(M:Sto):∃L,dX [I n,.d x] M=some (B (eN n x),M++L):=by
 have g:decide ((40:Int)<n)=false:=C1 (by omega);have no:∀{b:Bool},b=false->(∃L,dX [I n,.d x] M=some (B false,M++L))->∃L,dX [I n,.d x] M=some (B b,M++L):=fun e h=>by rw[e];exact h
 cases hi:aQ x with
 |none=>
  have e:eN n x=false:=by unfold eN;rw[hi]
  have r:fN x ((n:Int)-1)=false:=by unfold fN;rw[hi]
  refine no e ⟨[],?_⟩;rw[C4];simp![dX,hW,g,cQ,r]
 |some ds=>
  by_cases hn:ds.length+1=n
  .have r:fN x ((n:Int)-1)=true:=by unfold fN;rw[hi];show((ds.length:Int)==n-1)=true;rw[Z0];omega
   have c0:=aJk (n:=(n:Int)) (M:=M) hi (by omega);have a0:=aEh ds (fun d=>(bI n d).isSome) M;rw[KP]at a0;cases hm:ds.mapM (bI n)with
   |none=>
    have e:eN n x=false:=by unfold eN;rw[hi];dsimp only;rw[hm,F7]
    rw[hm]at a0;refine no e ⟨[],?_⟩;rw[C4];simp![dX,hW,g,cQ,r,c0,a0,Option.isSome_none]
   |some us=>
    rw[hm]at a0;have ul:=qP hm;have ok:=nS hm;have e:eN n x=(ris us&&pJ (zs n) us):=by unfold eN;rw[hi];dsimp only;rw[hm,B1 hn,E7]
    have c1:=aJg (x0:=I n) (M:=M) hi hm (by omega);have rs:=aAf us M (by omega);rw[e];cases hr:ris us with
    |false=>
     rw[hr]at rs;refine⟨[],?_⟩;rw[C4,J9];simp![dX,hW,g,cQ,r,c0,a0,Option.isSome_some,c1,rs]
    |true=>
     rw[hr]at rs;obtain⟨fs,ss,L,c,st,_,hc,d⟩:=OD (M:=M) (p:=0) hi hn n40 hm ok ⟨by omega,by omega⟩ (by omega)
     have ln:eF [.c c] (M++L)=some (I ss.length,M++L):=by
      unfold sC at hc;simp only[eF,hc];rw[A2]
     have sl:ss.length+1=fs.length:=by have:=F6 List.length d.st;simpa using this.symm
     have lst:((ss.length:Int)==(n:Int)-1)=pJ (zs n) us:=by
      have a:=d.done ok ⟨by omega,by omega⟩;have b:=wO h0 (by omega) ok;rw[U1,Z0,b,<- a];omega
     refine⟨L,?_⟩;rw[E7];simp![dX,hW,g,cQ,r,c0,a0,Option.isSome_some,c1,rs,st,ln,gZ,lst]
  .have e:eN n x=false:=by unfold eN;rw[hi];dsimp only;rw[C1 hn,J9]
   have r:fN x ((n:Int)-1)=false:=by unfold fN;rw[hi];show((ds.length:Int)==n-1)=false;rw[O1];omega
   refine no e ⟨[],?_⟩;rw[C4];simp![dX,hW,g,cQ,r]
noncomputable abbrev lD(l:List Int):CD:=.d (.list (l.map .int))
theorem NA(hl:l.length=n)(hp:Inn n p):ixF (lD l) (I p) M=some (I (at0 l p),M):=by
 have hk:p.toNat<l.length:=by omega
 have e:p=((p.toNat:Nat):Int):=by omega
 have:atI (l.map PyData.int) p=some (.int (at0 l p)):=by
  rw[e];refine oR ?_;rw[C8,B8 hk];simp only[at0,Int.toNat_natCast,List.getD_eq_getElem?_getD,List.getElem?_eq_getElem hk,Option.map_some,Option.getD_some]
 show(atI (l.map PyData.int) p).bind _=_;rw[this];rfl
noncomputable abbrev hpE:EF:=(fOp ixF (fP (aB (aD 3) (aB (fOp ixF (aD 0) (fOp ixF (aD 2) (fC (.int 0)))) aG))) (aK lM (aB (fOp (eqX false) (aD 3) (aD 1)) aG)))
theorem aGQ{t:Ed}{z:Int}(hl:l.length=n)(hd:bI n d=some t):hpE [some (lD l),some (I (at0 l t.2)),some (.d d),some (I z)] M=some (I (if z=at0 l t.2 then at0 l t.1 else z),M):=by
 obtain⟨a,hi,_⟩:=uR hd;obtain⟨h1,h2⟩:=qK hd;have i0:∀M,ixF (.d d) (I 0) M=some (I t.1,M):=fun M=>cT hi;have ix:=fun M=>NA (M:=M) hl h1;have s2:(2:Nat)<=sizeLine:=by decide
 cases h:(z==at0 l t.2)with
 |true=>
  rw[A3 (beq_iff_eq.mp h)];have ii:lM [.d (.bool true)] M=some (I 1,M):=rfl;have x1:∀a b:PyData,ixF (.d (.list [a,b])) (I 1) M=some (.d b,M):=fun a b=>rfl;simp![hpE,i0,ix,gZ,h,ii,x1,s2]
 |false=>
  rw[A7 (fun e=>by rw[beq_iff_eq.mpr e]at h;cases h)];have ii:lM [.d (.bool false)] M=some (I 0,M):=rfl;have x1:∀a b:PyData,ixF (.d (.list [a,b])) (I 0) M=some (.d a,M):=fun a b=>rfl;simp![hpE,i0,ix,gZ,h,ii,x1,s2]
theorem aDD{n:Nat}{l:List Int}{t:Ed}{d:PyData}{M:Sto}(hl:l.length=n)(hd:bI n d=some t):∀(zs:List Int)(g:Option CD),lcF (hName 3) jH hpE ((zs.map PyData.int).map .d) [some (lD l),some (I (at0 l t.2)),some (.d d),g] M=some (((zs.map fun z=>if z=at0 l t.2 then at0 l t.1 else z).map PyData.int).map .d,M)
 |[]=>fun g=>rfl
 |z::zs=>fun g=>by
  have ih:=aDD (M:=M) hl hd zs (some (I z));rw[B7,B7,B7,B7,B7];unfold lcF;rw[show hName 3 (.d (.int z)) [some (lD l),some (I (at0 l t.2)),some (.d d),g] M=some ([some (lD l),some (I (at0 l t.2)),some (.d d),some (I z)],M)from rfl,A0];dsimp only;rw[show jH [some (lD l),some (I (at0 l t.2)),some (.d d),some (I z)] M=some (true,M)from rfl,A0];dsimp only;rw[A3 rfl,aGQ hl hd,A0];dsimp only;rw[ih];rfl
theorem aCX{t:Ed}{x1:CD}{g3:Option CD}(hl:l.length=n)(n40:n<=100)(hd:bI n d=some t):iR [some x0,some x1,some (lD l),g3,some (.d d),some (I (at0 l t.2))] M=some (lD (eB l t),M):=by
 unfold iR;exact tP (EM rfl rfl) (sz (by rw[A2,A2];omega)) (aDD hl hd l none) (sz (by rw[A2];show(eB l t).length<=1000;rw[nL];omega))
noncomputable def aBw(ba:List PyData):Prop:=ba=[]\/∃p q:Int,ba=[.int p,.int q]
theorem MN{b1 b2:Int}(h:aBw ba)(ne:(b1,b2)≠(i,j)):ltX (.d (.tuple [.int b1,.int b2,.tuple ba])) (.d (.tuple [.int i,.int j,.tuple [.int p,.int q]])) M=some (B (mR (b1,b2) (i,j)),M):=by
 have lt:cY [.int b1,.int b2,.tuple ba] [.int i,.int j,.tuple [.int p,.int q]]=some (mR (b1,b2) (i,j)):=by
  show(if (b1==i)=true then(if (b2==j)=true then _ else some (decide (b2<j)))else some (decide (b1<i)))=_;unfold mR;dsimp only;by_cases h1:b1=i
  .rw[A3 (beq_iff_eq.mpr h1),A3 h1];have h2:b2≠j:=fun z=>ne (by rw[h1,z]);rw[A7 (fun z=>h2 (beq_iff_eq.mp z))]
  .rw[A7 (fun z=>h1 (beq_iff_eq.mp z)),A7 h1]
 have sh:([.int b1,.int b2,.tuple ba]:List PyData).all SeqAt.shaped=true:=by
  rcases h with rfl|⟨p,q,rfl⟩<;>rfl
 show(if (([.int b1,.int b2,.tuple ba]:List PyData).all SeqAt.shaped&&([.int i,.int j,.tuple [.int p,.int q]]:List PyData).all SeqAt.shaped)=true then(cY [.int b1,.int b2,.tuple ba] [.int i,.int j,.tuple [.int p,.int q]]).bind _ else none)=_;rw[sh,lt];rfl
noncomputable def SmR(d:PyData):Prop:=∀a b c,aQ d=some [a,b,c]->Sm c
theorem RY{c:PyData}(h:hZ c=true):∃p q:Int,aQ c=some [.int p,.int q]:=by
 unfold hZ at h;split at h
 .rename_i a b e;exact⟨a,b,e⟩
 .cases h
noncomputable abbrev GT(n x heaps before row old:Option CD):Ga:=[n,x,heaps,before,row,old]
section
variable{n:Nat}{x0 x1:CD}{l:List Int}{g3 g5:Option CD}{d:PyData}{M:Sto}
theorem aAt(i:Int):AH (.int i) 0 ((n:Int)-1)=plB n (.int i):=by
 show(decide (0<=i)&&decide (i<=(n:Int)-1))=(decide (0<=i)&&decide (i<n));congr 1;exact decide_eq_decide.mpr (by omega)
theorem YG(hs:SmR d)(hd:bI n d=none):aN (GT (some (I n)) x1 (some (lD l)) g3 (some (.d d)) g5) M=some (.rt (B false),M):=by
 cases hi:aQ d with
 |none=>
  have r:fT d=false:=by rw[fE,hi];rfl
  simp![aN,bA,r]
 |some ds=>
  have r:fT d=true:=by rw[fE,hi];rfl
  cases h3:((ds.length:Int)==3)with
  |false=>
   have ln:=fun M=>dI (M:=M) hi;simp![aN,bA,r,ln,nM,h3]
  |true=>
   obtain⟨a,b,c,rfl⟩:=aGb ds h3;have ln:∀M,eF [.d d] M=some (I 3,M):=fun M=>dI hi;have h33:((3:Int)==3)=true:=rfl;have i0:∀M,ixF (.d d) (I 0) M=some (.d a,M):=fun M=>cT hi;have i1:∀M,ixF (.d d) (I 1) M=some (.d b,M):=fun M=>cT hi;have i2:∀M,ixF (.d d) (I 2) M=some (.d c,M):=fun M=>cT hi;have la:=fun M=>pB c M (hs a b c hi);have es:=zU (n:=n) hi;rw[hd]at es;cases am:hZ c with
   |false=>simp![aN,bA,r,ln,nM,h33,i2,la,am]
   |true=>
    rw[am,Z8]at es;cases w0:AH a 0 ((n:Int)-1)with
    |false=>simp![aN,bA,r,ln,nM,h33,i0,i2,la,am,cM,w0]
    |true=>
     cases w1:AH b 0 ((n:Int)-1)with
     |false=>simp![aN,bA,r,ln,nM,h33,i0,i1,i2,la,am,cM,w0,w1]
     |true=>
      cases a with
      |int i=>
       cases b with
       |int j=>
        have ge:decide (j<=i)=true:=by
         rw[aAt]at w0 w1;have es:false=(decide (0<=i)&&decide (i<j)&&decide (j<(n:Int))):=es;unfold plB at w0 w1;simp only[Bool.and_eq_true,decide_eq_true_eq]at w0 w1;rw[B1 w0.1,B1 w1.2,E7,Z8]at es;have:=J3 es.symm;exact B1 (by omega)
        simp![aN,bA,r,ln,nM,h33,i0,i1,i2,la,am,cM,w0,w1,ge]
       |_=>cases w1
      |_=>cases w0
theorem UB{t pr:Ed}(n40:n<=100)(hl:l.length=n)(hs:SmR d)(hd:bI n d=some t)(hb:aBw ba)(ne:at0 l t.1≠at0 l t.2->pr≠t):
 if (!(at0 l t.1==at0 l t.2)&&mR pr t)=true then ∃ba',aBw ba'/\aN (GT (some (I n)) (some x1) (some (lD l)) (some (.d (.tuple [.int pr.1,.int pr.2,.tuple ba]))) (some (.d d)) g5) M=some (.nx (GT (some (I n)) (some x1) (some (lD (eB l t))) (some (.d (.tuple [.int t.1,.int t.2,.tuple ba']))) (some (.d d)) (some (I (at0 l t.2)))),M)
 else aN (GT (some (I n)) (some x1) (some (lD l)) (some (.d (.tuple [.int pr.1,.int pr.2,.tuple ba]))) (some (.d d)) g5) M=some (.rt (B false),M):=by
 obtain⟨c,hi,am,h0,h1,h2⟩:=uR hd;obtain⟨p1,p2⟩:=qK hd;obtain⟨p,q,hc⟩:=RY am;have r:fT d=true:=by rw[fE,hi];rfl
 have ln:∀M,eF [.d d] M=some (I 3,M):=fun M=>dI hi;have h33:((3:Int)==3)=true:=rfl;have i0:∀M,ixF (.d d) (I 0) M=some (I t.1,M):=fun M=>cT hi;have i1:∀M,ixF (.d d) (I 1) M=some (I t.2,M):=fun M=>cT hi;have i2:∀M,ixF (.d d) (I 2) M=some (.d c,M):=fun M=>cT hi;have tp:∀M,dN [.d c] M=some (.d (.tuple [.int p,.int q]),M):=fun M=>CZ hc;have la:=fun M=>pB c M (hs _ _ c hi);have w0:AH (.int t.1) 0 ((n:Int)-1)=true:=by rw[aAt];show(decide (0<=t.1)&&decide (t.1<(n:Int)))=true;rw[B1 h0,B1 (by omega)];rfl
 have w1:AH (.int t.2) 0 ((n:Int)-1)=true:=by rw[aAt];show(decide (0<=t.2)&&decide (t.2<(n:Int)))=true;rw[B1 (by omega),B1 h2];rfl
 have ge:decide (t.2<=t.1)=false:=C1 (by omega);have x1':=fun M=>NA (M:=M) hl p1;have x2':=fun M=>NA (M:=M) hl p2;have s3:(3:Nat)<=sizeLine:=by decide
 cases e:(at0 l t.1==at0 l t.2)with
 |true=>
  rw[A7 (by simp)];simp![aN,bA,r,ln,nM,h33,i0,i1,i2,la,am,cM,w0,w1,ge,x1',x2',gZ,e]
 |false=>
  have lt:=MN (M:=M) (p:=p) (q:=q) hb (ne (beq_eq_false_iff_ne.mp e));have lt:ltX (.d (.tuple [.int pr.1,.int pr.2,.tuple ba])) (.d (.tuple [.int t.1,.int t.2,.tuple [.int p,.int q]])) M=some (B (mR pr t),M):=lt;cases lx:mR pr t with
  |false=>
   rw[A7 (by simp)];rw[lx]at lt;simp![aN,bA,r,ln,nM,h33,i0,i1,i2,la,am,cM,w0,w1,ge,x1',x2',gZ,e,tp,lt,s3]
  |true=>
   rw[A3 (by simp)];rw[lx]at lt;refine⟨[.int p,.int q],.inr ⟨p,q,rfl⟩,?_⟩;have rl:=fun g3=>aCX (M:=M) (x0:=I n) (x1:=x1) (g3:=g3) hl n40 hd;simp![aN,bA,r,ln,nM,h33,i0,i1,i2,la,am,cM,w0,w1,ge,x1',x2',gZ,e,tp,lt,s3,rl]
end
noncomputable def blB(n:Nat):List Int->Ed->List PyData->Bool
 |_,_,[]=>true
 |l,pr,d::ds=>match bI n d with
  |none=>false
  |some t=>!(at0 l t.1==at0 l t.2)&&mR pr t&&blB n (eB l t) t ds
theorem IG{n:Nat}{x1:CD}{M:Sto}(n40:n<=100):∀(ds:List PyData)(l:List Int)(pr:Ed)(ba:List PyData)(g4 g5:Option CD),l.length=n->(∀d∈ds,SmR d)->aBw ba->(∀t,Inn n t.1->Inn n t.2->at0 l t.1≠at0 l t.2->pr≠t)->
 if blB n l pr ds=true then ∃γ,iI (hName 4) aN (ds.map .d) (GT (some (I n)) (some x1) (some (lD l)) (some (.d (.tuple [.int pr.1,.int pr.2,.tuple ba]))) g4 g5) M=some (.nx γ,M)
 else iI (hName 4) aN (ds.map .d) (GT (some (I n)) (some x1) (some (lD l)) (some (.d (.tuple [.int pr.1,.int pr.2,.tuple ba]))) g4 g5) M=some (.rt (B false),M)
 |[]=>fun l pr ba g4 g5 hl _ _ _=>⟨_,rfl⟩
 |d::ds=>fun l pr ba g4 g5 hl hs hb ne=>by
  have hd:=hs d (B0 ..)
  have un:∀o,aN (GT (some (I n)) (some x1) (some (lD l)) (some (.d (.tuple [.int pr.1,.int pr.2,.tuple ba]))) (some (.d d)) g5) M=some (o,M)->iI (hName 4) aN ((d::ds).map .d) (GT (some (I n)) (some x1) (some (lD l)) (some (.d (.tuple [.int pr.1,.int pr.2,.tuple ba]))) g4 g5) M=(match o with|.nx γ'=>iI (hName 4) aN (ds.map .d) γ' M|.ct γ'=>iI (hName 4) aN (ds.map .d) γ' M|.bk γ'=>some (.nx γ',M)|.rt x=>some (.rt x,M)):=fun o h=>by
   rw[B7]
   conv=>lhs;unfold iI
   rw[show hName 4 (.d d) (GT (some (I n)) (some x1) (some (lD l)) (some (.d (.tuple [.int pr.1,.int pr.2,.tuple ba]))) g4 g5) M=some (GT (some (I n)) (some x1) (some (lD l)) (some (.d (.tuple [.int pr.1,.int pr.2,.tuple ba]))) (some (.d d)) g5,M)from rfl,A0];dsimp only;rw[h,A0]
   all_goals (cases o<;>rfl)
  cases hd':bI n d with
  |none=>
   have key:blB n l pr (d::ds)=false:=by unfold blB;rw[hd']
   rw[key,A7 (by decide),un _ (YG hd hd')]
  |some t=>
   have key:blB n l pr (d::ds)=(!(at0 l t.1==at0 l t.2)&&mR pr t&&blB n (eB l t) t ds):=by
    conv=>lhs;unfold blB
    rw[hd']
   obtain⟨p1,p2⟩:=qK hd';have tg:=UB (x1:=x1) (g5:=g5) (M:=M) n40 hl hd hd' hb (ne t p1 p2);cases ht:(!(at0 l t.1==at0 l t.2)&&mR pr t)with
   |false=>
    rw[ht,A7 (by decide)]at tg;rw[ht,J9]at key;rw[key,A7 (by decide),un _ tg]
   |true=>
    rw[ht,A3 rfl]at tg;obtain⟨ba',hb',tg⟩:=tg;rw[ht,E7]at key;rw[key,un _ tg];refine IG n40 ds (eB l t) t ba' (some (.d d)) (some (I (at0 l t.2))) (by rw[nL,hl]) (fun y hy=>hs y (A9 _ hy)) hb' fun u q1 q2 q3 e=>?_;subst e;refine q3 ?_;rw[eO hl p1,eO hl p2,A3 rfl];split<;>rfl
theorem aDf{n:Nat}:∀(ds:List PyData)(l:List Int)(pr:Ed),blB n l pr ds=(match ds.mapM (bI n)with
 |some us=>((match us with|[]=>true|t::_=>mR pr t)&&ris us)&&pJ l us
 |none=>false)
 |[]=>fun l pr=>rfl
 |d::ds=>fun l pr=>by
  unfold blB;rw[U0];cases bI n d with
  |none=>rfl
  |some t=>
   dsimp only;rw[aDf ds (eB l t) t];show _=(match ((ds.mapM (bI n)).bind fun us=>some (t::us))with|some us=>_|none=>_);cases ds.mapM (bI n)with
   |none=>simp
   |some us=>
    rw[A0];dsimp only;rw[show pJ l (t::us)=(!(at0 l t.1==at0 l t.2)&&pJ (eB l t) us)from rfl]
    have rc:ris (t::us)=((match us with|[]=>true|u::_=>mR t u)&&ris us):=by
     cases us with
     |nil=>rfl
     |cons u us=>rfl
    rw[rc];cases (at0 l t.1==at0 l t.2)<;>cases mR pr t<;>simp
theorem WG(ds:List PyData):blB n (zs n) (-1,0) ds=(match ds.mapM (bI n)with|some us=>ris us&&pJ (zs n) us|none=>false):=by
 rw[aDf];cases hm:ds.mapM (bI n)with
 |none=>rfl
 |some us=>
  dsimp only;cases us with
  |nil=>rfl
  |cons t us=>
   have:=(nS hm t (B0 ..)).1.1
   have e:mR (-1,0) t=true:=by
    unfold mR;rw[A7 (by show(-1:Int)≠t.1;omega)];exact B1 (by show(-1:Int)<t.1;omega)
   dsimp only;rw[e,E7]
noncomputable def SmT(x:PyData):Prop:=∀ds,aQ x=some ds->∀d∈ds,SmR d
theorem aCO(n:Nat):TU 0 n=(zs n).map PyData.int:=by
 unfold TU zs;rw[O9];refine Y5 fun k _=>?_;show PyData.int (0+(k:Nat))=.int (Int.ofNat k);rw[Int.zero_add];rfl
theorem aEx(sm:cG J=true)(h:J.toNat<=sizeLine):tW false (aB (aD 0) aG) (some (I J)::γ) M=some (.d (.list (TU 0 J.toNat)),M):=by
 unfold tW;rw[show aB (aD 0) aG (some (I J)::γ) M=some ([I J],M)from rfl,A0];dsimp only;rw[A3 ⟨sm,h⟩,A7 (by decide)]
theorem KL{l:List Int}{M:Sto}{o:Out}(r:fT x=true)(ln:∀M,eF [.d x] M=some (I K,M))(ne:(!(K==J-1))=false)
 (lr:tW false (aB (aD 0) aG) [some (I J),some (.d x),none,none,none,none] M=some (lD l,M))
 (lp:kW (fU (aD 1)) (hName 4) aN (GT (some (I J)) (some (.d x)) (some (lD l)) (some (.d (.tuple [.int (-1),.int 0,.tuple []]))) none none) M=some (o,M)):
 (∀γ,o=.nx γ->bP [I J,.d x] M=some (B true,M))/\(∀y,o=.rt y->bP [I J,.d x] M=some (y,M)):=by
 constructor
 .rintro γ rfl;simp![bP,eX,bA,r,ln,nM,ne,lr,mE,lp]
 .rintro y rfl;simp![bP,eX,bA,r,ln,nM,ne,lr,mE,lp]
theorem CQ(h0:0<n)(n40:n<=100)(x:PyData)(M:Sto)(hs:SmT x):bP [I n,.d x] M=some (B (eN n x),M):=by
 cases hi:aQ x with
 |none=>
  have e:eN n x=false:=by unfold eN;rw[hi]
  have r:fT x=false:=by rw[fE,hi];rfl
  rw[e];simp![bP,eX,bA,r]
 |some ds=>
  have r:fT x=true:=by rw[fE,hi];rfl
  have ln:=fun M=>dI (M:=M) hi;by_cases hn:ds.length+1=n
  .have nn:((ds.length:Int)==(n:Int)-1)=true:=by rw[Z0];omega
   have e:eN n x=blB n (zs n) (-1,0) ds:=by
    rw[WG];unfold eN;rw[hi];dsimp only;rw[B1 hn,E7]
    all_goals (cases ds.mapM (bI n)<;>rfl)
   have lr:tW false (aB (aD 0) aG) [some (I n),some (.d x),none,none,none,none] M=some (lD (zs n),M):=by
    have h:=aEx (J:=(n:Int)) (γ:=[some (.d x),none,none,none,none]) (M:=M) (kL (by omega) (by omega)) (by rw[I0];exact sz (by omega));rw[I0,aCO]at h;exact h
   have it:fU (aD 1) (GT (some (I n)) (some (.d x)) (some (lD (zs n))) (some (.d (.tuple [.int (-1),.int 0,.tuple []]))) none none) M=some (ds.map .d,M):=EM hi rfl;have lp:=IG (x1:=.d x) (M:=M) n40 ds (zs n) (-1,0) [] none none (tQ n) (hs ds hi) (.inl rfl) (fun t q1 _ _ z=>by have:=q1.1;rw[<- z]at this;exact absurd this (by decide));dsimp only at lp;have ne:(!((ds.length:Int)==(n:Int)-1))=false:=by rw[nn];rfl
   have sf:∀o,iI (hName 4) aN (ds.map .d) (GT (some (I n)) (some (.d x)) (some (lD (zs n))) (some (.d (.tuple [.int (-1),.int 0,.tuple []]))) none none) M=some (o,M)->kW (fU (aD 1)) (hName 4) aN (GT (some (I n)) (some (.d x)) (some (lD (zs n))) (some (.d (.tuple [.int (-1),.int 0,.tuple []]))) none none) M=some (o,M):=fun o h=>by
    unfold kW;rw[it,A0];exact h
   rw[e];cases hb:blB n (zs n) (-1,0) ds with
   |true=>
    rw[hb,A3 rfl]at lp;obtain⟨γ,lp⟩:=lp;exact(KL r ln ne lr (sf _ lp)).1 γ rfl
   |false=>
    rw[hb,A7 (by decide)]at lp;exact(KL r ln ne lr (sf _ lp)).2 _ rfl
  .have nn:(!((ds.length:Int)==(n:Int)-1))=true:=by
    rw[Bool.not_eq_true',O1];omega
   have e:eN n x=false:=by unfold eN;rw[hi];dsimp only;rw[C1 hn,J9]
   rw[e];simp![bP,eX,bA,r,ln,nM,nn]
noncomputable def lsN:Nat->PyData->PyData
 |0,d=>d
 |n+1,.tuple xs=>.list (xs.map (lsN n))
 |_+1,d=>d
noncomputable def dpB:Nat->PyData->Bool
 |0,_=>false
 |n+1,.tuple xs=>decide (xs.length<=90)&&xs.all (dpB n)
 |_+1,_=>true
theorem FI(M:Sto):∀(n:Nat)(d:PyData),dpB n d=true->bO n [.d d] M=some (.d (lsN n d),M)
 |0,d=>fun h=>by cases h
 |n+1,.tuple xs=>fun h=>by
  have h:(decide (xs.length<=90)&&xs.all (dpB n))=true:=h;rw[B3,D8]at h
  have lc:∀(ys:List PyData)(g:Option CD),(∀y∈ys,dpB n y=true)->lcF (hName 0) jH (aK (bO n) (aB (aD 0) aG)) (ys.map .d) [g] M=some ((ys.map (lsN n)).map .d,M):=by
   intro ys
   induction ys with
   |nil=>intro g _;rfl
   |cons y ys ih=>
    intro g hy;have ih:=ih (some (.d y)) fun z hz=>hy z (A9 _ hz);have one:=FI M n y (hy y (B0 ..));rw[B7,B7,B7];unfold lcF;rw[show hName 0 (.d y) [g] M=some ([some (.d y)],M)from rfl,A0];dsimp only;rw[show jH [some (.d y)] M=some (true,M)from rfl,A0];dsimp only;rw[A3 rfl,show aK (bO n) (aB (aD 0) aG) [some (.d y)] M=bO n [.d y] M from rfl,one,A0];dsimp only;rw[ih];rfl
  have c:lO (bO n) [some (.d (.tuple xs))] M=some (.d (.list (xs.map (lsN n))),M):=by
   unfold lO;exact tP (EM rfl rfl) (sz (by rw[A2];exact F0 h.1 (by decide))) (lc xs none (List.all_eq_true.mp h.2)) (sz (by rw[A2];exact F0 h.1 (by decide)))
  have t:kM "tuple" (aD 0) [some (.d (.tuple xs))] M=some (B true,M):=rfl;show fnF 1 1 (kI (bO n)) [.d (.tuple xs)] M=_;unfold fnF kI aO sIf fO gB bK bC;simp only[List.length_cons,List.length_nil,Nat.reduceAdd,Nat.reduceSub,reduceIte,List.map_cons,List.map_nil,List.replicate_zero,List.append_nil,t,c,Option.bind_some,asB,Bool.not_true,Bool.false_eq_true];rfl
 |_+1,.none=>fun _=>rfl
 |_+1,.bool _=>fun _=>rfl
 |_+1,.int _=>fun _=>rfl
 |_+1,.str _=>fun _=>rfl
 |_+1,.list _=>fun _=>rfl
 |_+1,.dict _=>fun _=>rfl
theorem tZ(k:Nat)(d:PyData):aQ (lsN k d)=aQ d\/∃m xs,aQ d=some xs/\aQ (lsN k d)=some (xs.map (lsN m)):=by
 cases k with
 |zero=>exact .inl rfl
 |succ k=>
  cases d with
  |tuple xs=>exact .inr ⟨k,xs,rfl,rfl⟩
  |_=>exact .inl rfl
noncomputable def isInt:PyData->Option Int
 |.int i=>some i
 |_=>none
theorem GK(k:Nat)(d:PyData):isInt (lsN k d)=isInt d:=by
 cases k with
 |zero=>rfl
 |succ k=>cases d<;>rfl
theorem OO(a b:PyData):aFE a b=(match isInt a,isInt b with|some i,some j=>sH i j|_,_=>false):=by
 cases a<;>first|rfl|(cases b<;>rfl)
theorem aGc(k:Nat)(c:PyData):hZ (lsN k c)=hZ c:=by
 rcases tZ k c with h|⟨m,xs,h1,h2⟩
 .unfold hZ;rw[h]
 .cases l2:((xs.length:Int)==2)with
  |false=>rw[GM h1 l2,GM h2 (by rw[A2];exact l2)]
  |true=>
   obtain⟨a,b,rfl⟩:=aIQ xs l2;rw[HI h1,HI (show aQ (lsN k c)=some [lsN m a,lsN m b]from h2),OO,OO,GK,GK]
noncomputable def OR(n:Int)(a b c:PyData):Option (Int×Int):=match isInt a,isInt b with
 |some i,some j=>if (decide (0<=i)&&decide (i<j)&&decide (j<n)&&hZ c)=true then some (i,j)else none
 |_,_=>none
theorem NG{n:Int}{a b c:PyData}(h:aQ d=some [a,b,c]):bI n d=OR n a b c:=by
 unfold bI OR;rw[h];cases a<;>first|rfl|(cases b<;>rfl)
theorem aCL(n:Int)(k:Nat)(d:PyData):bI n (lsN k d)=bI n d:=by
 rcases tZ k d with h|⟨m,xs,h1,h2⟩
 .unfold bI;rw[h]
 .cases l3:((xs.length:Int)==3)with
  |false=>rw[zO h1 l3,zO h2 (by rw[A2];exact l3)]
  |true=>
   obtain⟨a,b,c,rfl⟩:=aGb xs l3;rw[NG h1,NG (show aQ (lsN k d)=some [lsN m a,lsN m b,lsN m c]from h2)];unfold OR;rw[GK,GK,aGc]
theorem FB(n:Int)(k:Nat):∀ds:List PyData,(ds.map (lsN k)).mapM (bI n)=ds.mapM (bI n)
 |[]=>rfl
 |d::ds=>by rw[B7,U0,U0,aCL,FB n k ds]
theorem aCB(n k:Nat)(x:PyData):eN n (lsN k x)=eN n x:=by
 rcases tZ k x with h|⟨m,xs,h1,h2⟩
 .unfold eN;rw[h]
 .unfold eN;rw[h1,h2];dsimp only;rw[A2,FB]
theorem bF{f g:SF}(h:f γ M=some (.nx γ',M')):aO f g γ M=g γ' M':=by
 unfold aO;rw[h,A0]
theorem tG{f:EF}{i:Nat}{x:CD}(h:f γ M=some (x,M')):aZ f (hName i) γ M=some (.nx (γ.set i (some x)),M'):=by
 unfold aZ;rw[h,A0];rfl
theorem xH{b:SF}{xs:List CD}{x:CD}(h:xs.length=ps)(hb:b (xs.map some++List.replicate (N-xs.length) none) M=some (.rt x,M')):fnF ps N b xs M=some (x,M'):=by
 unfold fnF;rw[A3 h,hb,A0]
theorem nH{f:AF}{b:SF}{M1:Sto}{xs:List CD}{r:Option (Out×Sto)}(h:f γ M=some (xs,M1))(hb:iI g b xs γ M1=r):kW f g b γ M=r:=by
 unfold kW;rw[h,A0];exact hb
theorem eQ{b:SF}{x:CD}{xs:List CD}{γ1 γ2:Ga}{M1 M2:Sto}(h:g x γ M=some (γ1,M1))(hb:b γ1 M1=some (.nx γ2,M2)):iI g b (x::xs) γ M=iI g b xs γ2 M2:=by
 conv=>lhs;unfold iI
 rw[h,A0];dsimp only;rw[hb,A0]
structure Tie where
 i:Int
 j:Int
 a:Int
 b:Int
noncomputable abbrev Tie.key(t:Tie):Ed:=(t.i,t.j)
noncomputable def Tie.lt(s t:Tie):Prop:=s.i<t.i\/(s.i=t.i/\s.j<t.j)
instance(s t:Tie):Decidable (Tie.lt s t):=by unfold Tie.lt;infer_instance
theorem key_ne{t:Tie}(h:s.key≠t.key):¬(s.i=t.i/\s.j=t.j):=fun⟨a,b⟩=>h (by unfold Tie.key;rw[a,b])
theorem Tie.lt_tot{t:Tie}(h:s.key≠t.key)(n:¬Tie.lt t s):Tie.lt s t:=by
 have:=key_ne h;unfold Tie.lt at n ⊢;omega
noncomputable def f2(t:Tie):List PyData:=[.int t.i,.int t.j,.tuple [.int t.a,.int t.b]]
noncomputable abbrev rD(t:Tie):PyData:=.tuple (f2 t)
theorem aIv{t:Tie}(h:s.key≠t.key):cY (f2 s) (f2 t)=some (decide (Tie.lt s t)):=by
 have k:=key_ne h;show(if (s.i==t.i)=true then(if (s.j==t.j)=true then _ else some (decide (s.j<t.j)))else some (decide (s.i<t.i)))=_;by_cases q:s.i=t.i
 .have q':¬s.j=t.j:=fun z=>k ⟨q,z⟩;rw[A3 (beq_iff_eq.mpr q),A7 (fun z=>q' (beq_iff_eq.mp z))];simp[Tie.lt,q]
 .rw[A7 (fun z=>q (beq_iff_eq.mp z))];simp[Tie.lt,q]
theorem aBQ(s t:Tie):(cY (f2 s) (f2 t)).isSome=true:=by
 show(if (s.i==t.i)=true then(if (s.j==t.j)=true then(if PyData.eqv (.tuple [.int s.a,.int s.b]) (.tuple [.int t.a,.int t.b])=true then cY [] []else some (HT.lexLt [s.a,s.b] [t.a,t.b]))else some (decide (s.j<t.j)))else some (decide (s.i<t.i))).isSome=true;split
 .split
  .split
   .rfl
   .rfl
  .rfl
 .rfl
theorem BH{i:Nat}(h:i<us.length):(us.map f2).getD i []=f2 us[i]:=by
 rw[B6,C8,B8 h];rfl
theorem aHQ(nd:(us.map Tie.key).Nodup){i j:Nat}(hi:i<us.length)(hj:j<us.length)(h:i≠j):us[i].key≠us[j].key:=fun q=>by
 have:=(Y2 (h₀:=by rw[A2];exact hi) (h₁:=by rw[A2];exact hj) nd).mp (by rw[S2,S2];exact q);exact h this
theorem aJo(h2:2<=us.length)(h64:us.length<64):sortable (us.map f2)=true:=by
 have hd:(jL (us.map f2) || qI (us.map f2))=true:=by
  rw[Bool.or_eq_true];exact .inl (by unfold jL;rw[List.all_map];exact List.all_eq_true.mpr fun t _=>rfl)
 unfold sortable;rw[A2,B1 h2,B1 h64,hd,E7,E7,Z8,B3];refine⟨List.all_eq_true.mpr fun r hr=>?_,List.all_eq_true.mpr fun i hi=>List.all_eq_true.mpr fun j hj=>?_⟩
 .obtain⟨t,_,rfl⟩:=List.mem_map.mp hr;rfl
 .rw[BH (List.mem_range.mp hi),BH (List.mem_range.mp hj)];exact aBQ _ _
theorem aCj{i j:Nat}(hi:i<us.length)(hj:j<us.length)(k:us[i].key≠us[j].key):fM (us.map f2) i j=decide (Tie.lt us[i] us[j]):=by
 unfold fM;rw[BH hi,BH hj,aIv k];rfl
noncomputable def t0:Tie:=⟨0,0,0,0⟩
theorem TV(us:List Tie):(List.range us.length).map (fun i=>us.getD i t0)=us:=by
 refine List.ext_getElem? fun i=>?_;rw[C8];by_cases h:i<us.length
 .rw[List.getElem?_range h,B8 h];show some (us.getD i t0)=_;rw[B6,B8 h];rfl
 .rw[List.getElem?_eq_none (by rw[U8];omega),List.getElem?_eq_none (by omega)];rfl
theorem NN{i:Nat}(h:i<us.length):us.getD i t0=us[i]:=by
 rw[B6,B8 h];rfl
theorem EH(h64:us.length<64):∃vs:List Tie,vs.Perm us/\((us.map Tie.key).Nodup->vs.Pairwise Tie.lt)/\pU (us.map f2)=some (vs.map rD)/\(2<=us.length->sortable (us.map f2)=true/\DV (us.map f2)=vs.map rD)/\(us.length<2->vs=us):=by
 by_cases h2:2<=us.length
 .have ab:=aJo h2 h64;have pm:=lX (n:=(us.map f2).length) (fM (us.map f2)) (by rw[A2];omega);have so:=CH ab;rw[A2]at pm so;have mem:∀i∈eG (fM (us.map f2)) us.length,i<us.length:=fun i hi=>List.mem_range.mp (pm.mem_iff.mp hi)
  have sd:DV (us.map f2)=((eG (fM (us.map f2)) us.length).map fun i=>us.getD i t0).map rD:=by
   unfold DV;rw[A2,O9];refine Y5 fun i hi=>?_;show PyData.tuple ((us.map f2).getD i [])=.tuple (f2 (us.getD i t0));rw[BH (mem i hi),NN (mem i hi)]
  refine⟨(eG (fM (us.map f2)) us.length).map fun i=>us.getD i t0,?_,fun nd=>?_,?_,fun _=>⟨ab,sd⟩,fun q=>by omega⟩
  .have:=pm.map fun i=>us.getD i t0
   rwa [TV]at this
  .rw[Z5];have nd2:(eG (fM (us.map f2)) us.length).Nodup:=pm.nodup_iff.mpr List.nodup_range;have len:(eG (fM (us.map f2)) us.length).length=us.length:=by rw[pm.length_eq,U8]
   rw[List.pairwise_iff_getElem];intro a b ha hb hab;have hx:=mem _ (S1 ha);have hy:=mem _ (S1 hb)
   have g:∀c (hc:c<(eG (fM (us.map f2)) us.length).length),(SV (fM (us.map f2)) (PySem.W.kas_sort us.length)).getD c 0=(eG (fM (us.map f2)) us.length)[c]:=fun c hc=>by
    unfold eG at hc ⊢;rw[A0c]at hc;simp[Array.getD,hc]
   have s1:=so a b hab (by rw[<- len];exact hb);rw[g a ha,g b hb]at s1
   have ne:(eG (fM (us.map f2)) us.length)[b]≠(eG (fM (us.map f2)) us.length)[a]:=fun q=>by
    have:=(Y2 nd2).mp q;omega
   have kn:=aHQ nd hy hx ne;rw[aCj hy hx kn]at s1;rw[NN hx,NN hy];exact Tie.lt_tot (O3 kn) (J3 s1)
  .unfold pU;rw[ab,A3 rfl,sd]
 .have hl:us.length<2:=by omega
  refine⟨us,.refl _,fun _=>?_,?_,fun q=>absurd q h2,fun _=>rfl⟩
  .match us,hl with
   |[],_=>exact .nil
   |[t],_=>exact List.pairwise_singleton _ _
  .unfold pU
   have:sortable (us.map f2)=false:=by
    unfold sortable;rw[A2,C1 h2];rfl
   rw[this,A7 A8,A2,A3 hl,O9];rfl
theorem PD(us:List Tie):rowsOf (us.map rD)=some (us.map f2):=by
 induction us with
 |nil=>rfl
 |cons t us ih=>
  show(rowsOf (us.map rD)).bind _=_;rw[ih];rfl
theorem VD(h64:us.length<64):∃vs:List Tie,vs.Perm us/\zG [.d (.tuple (us.map rD))] M=some (.d (.list (vs.map rD)),M):=by
 obtain⟨vs,h1,_,h2,_⟩:=EH h64;refine⟨vs,h1,?_⟩;show(rowsOf (us.map rD)).bind _=_;rw[PD,A0,h2];rfl
theorem SW(hc:M[c]?=some (.lst ((us.map rD).map .d)))(h64:us.length<64):∃vs:List Tie,vs.Perm us/\((us.map Tie.key).Nodup->vs.Pairwise Tie.lt)/\wK [.c c] M=some (.d (.list (vs.map rD)),M):=by
 obtain⟨vs,h1,h2,_,h3,h4⟩:=EH h64;refine⟨vs,h1,h2,?_⟩;unfold wK;by_cases hl:us.length<2
 .have:tY [.c c] M=some (.d (.list (vs.map rD)),M):=by
   simp only[tY,hc,kS,Option.bind_some,List.length_map,if_pos hl];rw[h4 hl]
  rw[this]
 .have:tY [.c c] M=none:=by
   simp only[tY,hc,kS,Option.bind_some,List.length_map,if_neg hl]
  rw[this];obtain⟨ab,sd⟩:=h3 (by omega);simp only[yS,hc,kS,Option.bind_some,PD,if_pos ab,sd]
noncomputable def smB(d:PyData):Bool:=match aQ d with
 |some [.int a,.int b]=>decide (a<=E60)&&decide (b<=E60)
 |_=>true
theorem aIT(h:smB d=true):Sm d:=fun a b e=>by
 unfold smB at h;rw[e]at h;have h:(decide (a<=E60)&&decide (b<=E60))=true:=h;rw[B3,D8,D8]at h;exact h
noncomputable def YY(d:PyData):Bool:=match aQ d with
 |some [_,_,c]=>smB c
 |_=>true
theorem aGh(h:YY d=true):SmR d:=fun a b c e=>by
 unfold YY at h;rw[e]at h;exact aIT h
noncomputable def aHe(d:PyData):Bool:=match aQ d with
 |some ds=>ds.all YY
 |none=>true
theorem aEH(h:aHe d=true):SmT d:=fun ds e r hr=>by
 unfold aHe at h;rw[e]at h;exact aGh (List.all_eq_true.mp h r hr)
noncomputable def okR(d:PyData):Bool:=dpB 5 d&&YY d
noncomputable def lnB(d:PyData):Bool:=match aQ d with
 |some ds=>decide (ds.length<=90)
 |none=>true
noncomputable def okX(d:PyData):Bool:=dpB 6 d&&aHe d&&lnB d
theorem rN{ds:List PyData}(h:∀d∈ds,okR d=true)(hl:ds.length<=90):okX (.tuple ds)=true:=by
 show((decide (ds.length<=90)&&ds.all (dpB 5))&&ds.all YY&&decide (ds.length<=90))=true;rw[B1 hl,E7,Z8,B3,List.all_eq_true,List.all_eq_true];exact⟨fun d hd=>by have:=h d hd;unfold okR at this;rw[B3]at this;exact this.1,fun d hd=>by have:=h d hd;unfold okR at this;rw[B3]at this;exact this.2⟩
noncomputable abbrev E30:Int:=1000000000000000000000000000000
noncomputable abbrev E21:Int:=1000000000000000000000
structure Am(a b:Int):Prop where
 am:sH a b=true
 a30:a<=E30
 b21:b<=E21
theorem yL(ha:a<=E60)(hb:b<=E60):okR (.tuple [.int i,.int j,.tuple [.int a,.int b]])=true:=by
 show(true&&(decide (a<=E60)&&decide (b<=E60)))=true;rw[B1 ha,B1 hb];rfl
theorem Am.ok(h:Am a b):okR (.tuple [.int i,.int j,.tuple [.int a,.int b]])=true:=yL (Y3 h.a30 (by decide)) (Y3 h.b21 (by decide))
noncomputable def zL:List PyData:=[.none,(.bool true),(.int 0),(.int 3),(.str "0"),(.tuple []),(.list []),(.dict []),(.tuple [(.int 0),(.int 1)]),(.tuple [(.tuple [(.int 0),(.int 1)])]),(.tuple [(.tuple [(.int 0),(.int 1),(.tuple [(.int 1),(.int 1)]),(.int 0)])]),(.tuple [(.tuple [(.int 0),(.int 1),(.int 1)])]),(.tuple [(.tuple [(.int 0),(.int 1),(.tuple [(.int 2),(.int 2)])])])]
noncomputable def zJ:List PyData:=[(.tuple [(.tuple [(.int 1),(.int 0),(.tuple [(.int 1),(.int 1)])])]),(.tuple [(.tuple [(.int 0),(.int 0),(.tuple [(.int 1),(.int 1)])])]),(.tuple [(.tuple [(.int 0),(.int 1),(.tuple [(.int (-1)),(.int 1)])])]),(.tuple [(.tuple [(.int 0),(.int 1),(.tuple [(.int 1),(.int 0)])])]),(.tuple [(.tuple [(.bool false),(.bool true),(.tuple [(.int 1),(.int 1)])])])]
theorem aBG:(zL++zJ).all (fun d=>okX d&&okR d)=true:=rfl
theorem aEt{k m:Int}(hm:0<m)(hl:(ds.length:Int)=m):∃d,atI ds (k % m)=some d/\d∈ds:=by
 have h1:=O2 k (show m≠0 by omega);have h2:=J4 k hm;have hk:(k % m).toNat<ds.length:=by omega
 obtain⟨q,hq⟩:∃q:Nat,k % m=(q:Nat):=⟨(k % m).toNat,by omega⟩;rw[hq]at hk ⊢;rw[I0]at hk;exact⟨ds[q],oR (B8 hk),S1 hk⟩
theorem YD(k:Int)(M:Sto):∃d,kX [I k] M=some (.d d,M)/\okX d=true/\okR d=true:=by
 obtain⟨d,h1,h2⟩:=aEt (ds:=zL++zJ) (k:=k) (m:=18) (by decide) rfl;have ok:=List.all_eq_true.mp aBG d h2;rw[B3]at ok;refine⟨d,?_,ok⟩;have ad:cC (.d (.list zL)) (.d (.list zJ)) M=some (.d (.list (zL++zJ)),M):=rfl
 have ix:ixF (.d (.list (zL++zJ))) (I (k % 18)) M=some (.d d,M):=by
  show(atI (zL++zJ) (k % 18)).bind _=_;rw[h1];rfl
 have k0:∀γ,oS γ M=some (.d (.list zL),M):=fun γ=>CF γ M;have k1:∀γ,oH γ M=some (.d (.list zJ),M):=fun γ=>CG γ M;have mk:hX k 18=true:=dQ (by decide);simp![kX,tN,k0,k1,ad,mk,ix]
theorem xM:∀us:List Tie,PyData.canLayAll0 (us.map rD)=true
 |[]=>rfl
 |t::us=>by show(true&&PyData.canLayAll0 (us.map rD))=true;rw[xM us];rfl
theorem zW:∀us:List Tie,PyData.depthAll (us.map rD)<=2
 |[]=>by decide
 |t::us=>by
  show max 2 (PyData.depthAll (us.map rD))<=2;exact Nat.max_le.mpr ⟨A6 _,zW us⟩
theorem eq_nil(us:List Tie)(M:Sto):eqX false (.d (.tuple (us.map rD))) (.d (.tuple [])) M=some (B us.isEmpty,M):=by
 have e1:SeqAt.shaped (.tuple (us.map rD))=true:=by
  unfold SeqAt.shaped;have e2:PyData.canLay0 (.tuple (us.map rD))=true:=xM us
  have e3:PyData.depth (.tuple (us.map rD))<=64:=by
   show PyData.depthAll (us.map rD)+1<=64;have:=zW us;omega
  rw[e2,B1 e3];rfl
 have e2:SeqAt.shaped (.tuple [])=true:=rfl;show(if (SeqAt.shaped (.tuple (us.map rD))&&SeqAt.shaped (.tuple []))=true then some (B (PyData.eqv (.tuple (us.map rD)) (.tuple [])),M)else none)=_;rw[e1,e2];cases us<;>rfl
theorem rX{α:Type}{ds:List α}{lo hi:Option Int}:∀x∈eD ds lo hi,x∈ds:=fun x hx=>by
 unfold eD at hx;exact List.mem_of_mem_drop (List.mem_of_mem_take hx)
theorem FU{α:Type}(ds:List α)(lo hi:Option Int):(eD ds lo hi).length<=ds.length:=by
 unfold eD;rw[O6,Z7];omega
theorem aCn{α:Type}{ds:List α}(h0:0<=a)(h1:a<ds.length):(eD ds none (some a)).length+(eD ds (some (a+1)) none).length+1=ds.length:=by
 obtain⟨q,rfl⟩:∃q:Nat,a=(q:Nat):=⟨a.toNat,by omega⟩;unfold eD;rw[HT.sIx_none,HT.sIx_none,show((q:Nat):Int)+1=((q+1:Nat):Int)from rfl,HT.sIx_nat,HT.sIx_nat,O6,Z7,O6,Z7];omega
theorem QR(us:List Tie)(lo hi:Option Int):eD (us.map rD) lo hi=(eD us lo hi).map rD:=by
 unfold eD;rw[A2,List.map_take,List.map_drop]
theorem sl_tup{lo hi:Option Int}:slF (.d (.tuple ds)) lo hi M=some (.d (.tuple (eD ds lo hi)),M):=rfl
theorem uM{xs:List PyData}(hl:xs.length+ys.length<=1000):cC (.d (.tuple xs)) (.d (.tuple ys)) M=some (.d (.tuple (xs++ys)),M):=by
 cases xs with
 |nil=>rfl
 |cons x xs=>
  have h:(x::xs:List PyData)≠[]/\(x::xs).length+ys.length<=sizeLine:=⟨by simp,sz hl⟩;show(if (x::xs:List PyData)≠[]/\(x::xs).length+ys.length<=sizeLine then some (CD.d (.tuple (x::xs++ys)),M)else none)=_;rw[A3 h]
theorem uY{α:Type}{ds:List α}{k m:Int}(hm:0<m)(hl:(ds.length:Int)=m):∃d,atI ds (k % m)=some d/\d∈ds:=by
 have h1:=O2 k (show m≠0 by omega);have h2:=J4 k hm;have hk:(k % m).toNat<ds.length:=by omega
 obtain⟨q,hq⟩:∃q:Nat,k % m=(q:Nat):=⟨(k % m).toNat,by omega⟩;rw[hq]at hk ⊢;rw[I0]at hk;exact⟨ds[q],oR (B8 hk),S1 hk⟩
theorem yK{rs:List Tie}{lo hi lo' hi':Option Int}(ham:∀t∈rs,Am t.a t.b)(hl:rs.length<=39)(hd:okR d=true):okX (.tuple (eD (rs.map rD) lo hi++[d]++eD (rs.map rD) lo' hi'))=true:=by
 have ok:∀x∈rs.map rD,okR x=true:=fun x hx=>by
  obtain⟨t,ht,rfl⟩:=List.mem_map.mp hx;exact(ham t ht).ok
 have l1:=FU (rs.map rD) lo hi;have l2:=FU (rs.map rD) lo' hi';rw[A2]at l1 l2;refine rN (fun x hx=>?_) (by rw[B4,B4,C6];omega);rcases List.mem_append.mp hx with hx|hx
 .rcases List.mem_append.mp hx with hx|hx
  .exact ok x (rX x hx)
  .rw[D2]at hx;rw[hx];exact hd
 .exact ok x (rX x hx)
section
variable{rs:List Tie}{k n:Int}{M:Sto}
noncomputable abbrev tr(rs:List Tie):CD:=.d (.tuple (rs.map rD))
noncomputable abbrev GB(rs:List Tie)(k n w m:Int)(a i j am b:Option CD):Ga:=[some (tr rs),some (I k),some (I n),some (I w),some (I m),a,i,j,am,b]
theorem aEy(ham:∀t∈rs,Am t.a t.b)(hl:rs.length<=39)(n1:0<n)(n40:n<=40):∃d L,bM [tr rs,I k,I n] M=some (.d d,M++L)/\okX d=true:=by
 have mk:hX k 9=true:=dQ (by decide);have dk:∀z:Int,vL z 9=true:=fun z=>vH (by decide) (wsm (by decide) (by decide));have en:=eq_nil rs M;have s0:(0:Nat)<=sizeLine:=E5 _;cases w0:(k % 9==0)with
 |true=>
  obtain⟨d,h1,h2,_⟩:=YD (k / 9) M;refine⟨d,[],?_,h2⟩;rw[C4];simp![bM,cR,mk,dk,gZ,w0,h1]
 |false=>
  cases hr:rs.isEmpty with
  |true=>
   obtain⟨d,h1,h2,_⟩:=YD (k / 9) M;refine⟨d,[],?_,h2⟩;rw[hr]at en;rw[C4];simp![bM,cR,mk,dk,gZ,w0,en,s0,h1]
  |false=>
   rw[hr]at en;have lp:0<rs.length:=by cases rs with|nil=>cases hr|cons _ _=>simp
   have ln:∀M,eF [tr rs] M=some (I rs.length,M):=fun M=>by
    have:=dI (x:=.tuple (rs.map rD)) (ds:=rs.map rD) (M:=M) rfl;rw[A2]at this;exact this
   obtain⟨t,ht,htm⟩:=uY (ds:=rs) (k:=k / 9) (m:=(rs.length:Int)) (by omega) rfl;have am:=ham t htm;generalize hL:(rs.length:Int)=J at ln ht;have J0:0<J:=by omega
   have mJ:hX (k / 9) J=true:=dQ J0;generalize ha:k / 9 % J=a at ht
   have ix:∀M,ixF (tr rs) (I a) M=some (.d (.tuple [.int t.i,.int t.j,.tuple [.int t.a,.int t.b]]),M):=fun M=>by
    have:atI (rs.map rD) a=some (rD t):=by
     unfold atI at ht ⊢;rw[A2];obtain⟨j,h1,h2⟩:=aH ht;rw[h1,A0,C8,h2];rfl
    show(atI (rs.map rD) a).bind _=_;rw[this];rfl
   have ok:∀x∈rs.map rD,okR x=true:=fun x hx=>by
    obtain⟨t,ht,rfl⟩:=List.mem_map.mp hx;exact(ham t ht).ok
   have l1:=fun lo hi=>FU (rs.map rD) lo hi;simp only[List.length_map]at l1;have s1:(1:Nat)<=sizeLine:=by decide
   have s2:(2:Nat)<=sizeLine:=by decide
   have s3:(3:Nat)<=sizeLine:=by decide
   have s5:(5:Nat)<=sizeLine:=by decide
   have ad1:cC (I a) (I 1) M=some (I (a+1),M):=rfl;have ad2:∀(d:PyData)(M:Sto),cC (.d (.tuple (eD (rs.map rD) none (some a)))) (.d (.tuple [d])) M=some (.d (.tuple (eD (rs.map rD) none (some a)++[d])),M):=fun d M=>uM (by have:=l1 none (some a);rw[C6];omega);have ad3:∀(d:PyData)(M:Sto),cC (.d (.tuple (eD (rs.map rD) none (some a)++[d]))) (.d (.tuple (eD (rs.map rD) (some (a+1)) none))) M=some (.d (.tuple (eD (rs.map rD) none (some a)++[d]++eD (rs.map rD) (some (a+1)) none)),M):=fun d M=>uM (by have:=l1 none (some a);have:=l1 (some (a+1)) none;rw[B4,C6];omega);have dJ:∀z:Int,hX z 6=true:=fun z=>dQ (by decide);cases w1:(k % 9==1)with
   |true=>
    have ad:cC (.d (.tuple (eD (rs.map rD) none (some a)))) (.d (.tuple (eD (rs.map rD) (some (a+1)) none))) M=some (.d (.tuple (eD (rs.map rD) none (some a)++eD (rs.map rD) (some (a+1)) none)),M):=uM (by have:=l1 none (some a);have:=l1 (some (a+1)) none;omega);refine⟨.tuple (eD (rs.map rD) none (some a)++eD (rs.map rD) (some (a+1)) none),[],?_,rN (fun x hx=>?_) (by have:=l1 none (some a);have:=l1 (some (a+1)) none;rw[B4];omega)⟩
    .rw[C4];simp![bM,cR,mk,dk,gZ,w0,en,s0,ln,mJ,ha,ix,w1,fSl,dW,bV,asI,sl_tup,ad1,ad]
    .rcases List.mem_append.mp hx with hx|hx<;>exact ok x (rX x hx)
   |false=>
   cases w2:(k % 9==2)with
   |true=>
    have ad:cC (tr rs) (.d (.tuple (eD (rs.map rD) (some a) (some (a+1))))) M=some (.d (.tuple (rs.map rD++eD (rs.map rD) (some a) (some (a+1)))),M):=uM (by have:=l1 (some a) (some (a+1));rw[A2];omega);refine⟨.tuple (rs.map rD++eD (rs.map rD) (some a) (some (a+1))),[],?_,rN (fun x hx=>?_) (by have:=l1 (some a) (some (a+1));rw[B4,A2];omega)⟩
    .rw[C4];simp![bM,cR,mk,dk,gZ,w0,en,s0,ln,mJ,ha,ix,w1,w2,fSl,dW,bV,asI,sl_tup,ad1,ad]
    .rcases List.mem_append.mp hx with hx|hx
     .exact ok x hx
     .exact ok x (rX x hx)
   |false=>
   cases w3:(k % 9==3)with
   |true=>
    have ng:yD (I 1) M=some (I (-1),M):=rfl;have rv:YB (tr rs) M=some (.d (.tuple (rs.map rD).reverse),M):=rfl;have rf:aBu (aD 0) (dW (fUn yD (fC (.int 1)))) (GB rs k n (k % 9) (k / 9) (some (I a)) (some (I t.i)) (some (I t.j)) (some (.d (.tuple [.int t.a,.int t.b]))) none) M=some (.d (.tuple (rs.map rD).reverse),M):=rfl;refine⟨.tuple (rs.map rD).reverse,[],?_,rN (fun x hx=>ok x (List.mem_reverse.mp hx)) (by rw[S9,A2];omega)⟩;rw[C4];simp![bM,cR,mk,dk,gZ,w0,en,s0,ln,mJ,ha,ix,w1,w2,w3];rfl
   |false=>
   cases w4:(k % 9==4)with
   |true=>
    refine⟨_,[],?_,yK (lo:=none) (hi:=some a) (lo':=some (a+1)) (hi':=none) (d:=.tuple [.int t.j,.int t.i,.tuple [.int t.a,.int t.b]]) ham hl am.ok⟩;rw[C4];simp![bM,cR,mk,dk,gZ,w0,en,s0,ln,mJ,ha,ix,w1,w2,w3,w4,fSl,dW,bV,asI,sl_tup,ad1,ad2,ad3,s1,s3]
   |false=>
   cases w5:(k % 9==5)with
   |true=>
    have a60:t.a<=E60:=Y3 am.a30 (by decide);have b60:t.b<=E60:=Y3 am.b21 (by decide);have a2:2*t.a<=E60:=Y3 (Int.mul_le_mul_of_nonneg_left am.a30 (by decide)) (by decide);have b2:2*t.b<=E60:=Y3 (Int.mul_le_mul_of_nonneg_left am.b21 (by decide)) (by decide);have m2:∀z,jC 2 z=true:=fun z=>by unfold jC;rw[B1 (show(2:Int).natAbs<2 ^ 64 by decide)];rfl
    let six:List CD:=[.d (.tuple [.int t.a,.int t.b,.int 1]),.d (.tuple [.int (2*t.a),.int (2*t.b)]),.d (.tuple [.int t.a,.int 0]),.d (.tuple [.int (-1),.int 1]),I t.a,.d (.list [.bool true,.int 1])];obtain⟨c,hc,hcm⟩:=uY (ds:=six) (k:=k / 9 / 9) (m:=6) (by decide) rfl
    have hx:∃d,c=.d d/\okR (.tuple [.int t.i,.int t.j,d])=true:=by
     simp only[six,List.mem_cons,List.not_mem_nil,or_false]at hcm;rcases hcm with rfl|rfl|rfl|rfl|rfl|rfl
     .exact⟨_,rfl,rfl⟩
     .exact⟨_,rfl,yL a2 b2⟩
     .exact⟨_,rfl,yL a60 (by decide)⟩
     .exact⟨_,rfl,yL (by decide) (by decide)⟩
     .exact⟨_,rfl,rfl⟩
     .exact⟨_,rfl,rfl⟩
    obtain⟨d,rfl,hd⟩:=hx;have x0:∀M,ixF (.d (.tuple [.int t.a,.int t.b])) (I 0) M=some (I t.a,M):=fun M=>rfl;have x1:∀M,ixF (.d (.tuple [.int t.a,.int t.b])) (I 1) M=some (I t.b,M):=fun M=>rfl
    have ty:tyB "list" (M++[Cell.lst [.d (.tuple [.int t.a,.int t.b,.int 1]),.d (.tuple [.int (2*t.a),.int (2*t.b)]),.d (.tuple [.int t.a,.int 0]),.d (.tuple [.int (-1),.int 1]),I t.a]]) (.c M.length)=true:=by
     have e:(M++[Cell.lst [.d (.tuple [.int t.a,.int t.b,.int 1]),.d (.tuple [.int (2*t.a),.int (2*t.b)]),.d (.tuple [.int t.a,.int 0]),.d (.tuple [.int (-1),.int 1]),I t.a]])[M.length]?=some (Cell.lst [.d (.tuple [.int t.a,.int t.b,.int 1]),.d (.tuple [.int (2*t.a),.int (2*t.b)]),.d (.tuple [.int t.a,.int 0]),.d (.tuple [.int (-1),.int 1]),I t.a]):=by
      rw[B2 (A6 _),D4];rfl
     simp only[tyB,e];decide
    have ap:bZ (.c M.length) [.d (.list [.bool true,.int 1])] (M++[Cell.lst [.d (.tuple [.int t.a,.int t.b,.int 1]),.d (.tuple [.int (2*t.a),.int (2*t.b)]),.d (.tuple [.int t.a,.int 0]),.d (.tuple [.int (-1),.int 1]),I t.a]])=some (.d .none,M++[Cell.lst six]):=by
     have e:(M++[Cell.lst [.d (.tuple [.int t.a,.int t.b,.int 1]),.d (.tuple [.int (2*t.a),.int (2*t.b)]),.d (.tuple [.int t.a,.int 0]),.d (.tuple [.int (-1),.int 1]),I t.a]])[M.length]?=some (Cell.lst [.d (.tuple [.int t.a,.int t.b,.int 1]),.d (.tuple [.int (2*t.a),.int (2*t.b)]),.d (.tuple [.int t.a,.int 0]),.d (.tuple [.int (-1),.int 1]),I t.a]):=by
      rw[B2 (A6 _),D4];rfl
     have l5:([.d (.tuple [.int t.a,.int t.b,.int 1]),.d (.tuple [.int (2*t.a),.int (2*t.b)]),.d (.tuple [.int t.a,.int 0]),.d (.tuple [.int (-1),.int 1]),I t.a]:List CD).length<sizeLine:=by
      show 5<sizeLine;decide
     simp only[bZ,e,if_pos l5];rw[D7 _ _ (A6 _),D4];rfl
    have xc:ixF (.c M.length) (I (k / 9 / 9 % 6)) (M++[Cell.lst six])=some (.d d,M++[Cell.lst six]):=by
     have e:(M++[Cell.lst six])[M.length]?=some (Cell.lst six):=by
      rw[B2 (A6 _),D4];rfl
     simp only[ixF,e,hc,Option.bind_some]
    have ad1':∀M,cC (I a) (I 1) M=some (I (a+1),M):=fun M=>rfl;refine⟨_,[Cell.lst six],?_,yK (lo:=none) (hi:=some a) (lo':=some (a+1)) (hi':=none) ham hl hd⟩;simp![bM,cR,mk,dk,gZ,w0,en,s0,ln,mJ,ha,ix,w1,w2,w3,w4,w5,x0,x1,m2,BP,AC,bU,ty,ap,xc,dJ,fSl,dW,bV,asI,sl_tup,ad1',ad2,ad3,s1,s2,s3,s5]
   |false=>
   cases w6:(k % 9==6)with
   |true=>
    have an:cC (I n) (I 1) M=some (I (n+1),M):=rfl;have mn:hX (k / 9 / 9) (n+1)=true:=dQ (by omega);refine⟨_,[],?_,yK (lo:=none) (hi:=some a) (lo':=some (a+1)) (hi':=none) (d:=.tuple [.int t.i,.int (k / 9 / 9 % (n+1)),.tuple [.int t.a,.int t.b]]) ham hl am.ok⟩;rw[C4];simp![bM,cR,mk,dk,gZ,w0,en,s0,ln,mJ,ha,ix,w1,w2,w3,w4,w5,w6,an,mn,fSl,dW,bV,asI,sl_tup,ad1,ad2,ad3,s1,s3]
   |false=>
   cases w7:(k % 9==7)with
   |true=>
    have mn:hX (k / 9 / 9) n=true:=dQ n1;have an:cC (I 1) (I (k / 9 / 9 % n)) M=some (I (1+k / 9 / 9 % n),M):=rfl
    have e3:eD (rs.map rD) none (some a)++[PyData.tuple [.int 0,.int (1+k / 9 / 9 % n),.tuple [.int t.a,.int t.b]]]++eD (rs.map rD) (some (a+1)) none=(eD rs none (some a)++[(⟨0,1+k / 9 / 9 % n,t.a,t.b⟩:Tie)]++eD rs (some (a+1)) none).map rD:=by
     rw[QR,QR,D3,D3];rfl
    have c1:=aCn (ds:=rs) (a:=a) (by rw[<- ha];exact O2 _ (by omega)) (by rw[<- ha,hL];exact J4 _ J0);obtain⟨vs,hp,so⟩:=VD (us:=eD rs none (some a)++[(⟨0,1+k / 9 / 9 % n,t.a,t.b⟩:Tie)]++eD rs (some (a+1)) none) (M:=M) (by rw[B4,B4,C6];omega);rw[<- e3]at so;have tv:dN [.d (.list (vs.map rD))] M=some (.d (.tuple (vs.map rD)),M):=rfl;refine⟨.tuple (vs.map rD),[],?_,rN (fun x hx=>?_) (by rw[A2,hp.length_eq,B4,B4,C6];omega)⟩
    .rw[C4];simp![bM,cR,mk,dk,gZ,w0,en,s0,ln,mJ,ha,ix,w1,w2,w3,w4,w5,w6,w7,an,mn,fSl,dW,bV,asI,sl_tup,ad1,ad2,ad3,s1,s3,so,tv]
    .obtain⟨u,hu,rfl⟩:=List.mem_map.mp hx;have hu:=hp.mem_iff.mp hu;rcases List.mem_append.mp hu with hu|hu
     .rcases List.mem_append.mp hu with hu|hu
      .exact(ham u (rX u hu)).ok
      .rw[D2]at hu;rw[hu];exact am.ok
     .exact(ham u (rX u hu)).ok
   |false=>
    obtain⟨d,h1,_,h2⟩:=YD (k / 9 / 9) M;refine⟨_,[],?_,yK (lo:=none) (hi:=some a) (lo':=some (a+1)) (hi':=none) (d:=d) ham hl h2⟩;rw[C4];simp![bM,cR,mk,dk,gZ,w0,en,s0,ln,mJ,ha,ix,w1,w2,w3,w4,w5,w6,w7,h1,fSl,dW,bV,asI,sl_tup,ad1,ad2,ad3,s1]
end
noncomputable abbrev cI(xs:List Int):Cell:=.lst (xs.map fun i=>I i)
noncomputable def Li(M:Sto)(c:Nat)(xs:List Int):Prop:=M[c]?=some (cI xs)
structure Oth(c:Nat)(M M':Sto):Prop where
 len:M'.length=M.length
 at_:∀i,i≠c->M'[i]?=M[i]?
theorem Li.lt(h:Li M c xs):c<M.length:=(List.getElem?_eq_some_iff.mp h).1
theorem Li.set{ys:List Int}(h:Li M c xs):Li (M.set c (cI ys)) c ys/\Oth c M (M.set c (cI ys)):=
 ⟨by unfold Li;rw[L8 h.lt],by rw[U3],fun i hi=>by rw[O7 (O3 hi)]⟩
theorem Li.oth{d:Nat}(h:Li M c xs)(o:Oth d M M')(ne:c≠d):Li M' c xs:=by unfold Li;rw[o.at_ c ne];exact h
theorem Li.app{L:Sto}(h:Li M c xs):Li (M++L) c xs:=by unfold Li;rw[J7 h.lt];exact h
theorem Li.ty(h:Li M c xs):tyB "list" M (.c c)=true:=by
 unfold Li at h;simp only[tyB,h];decide
theorem Li.ln(h:Li M c xs):eF [.c c] M=some (I xs.length,M):=by
 unfold Li at h;simp only[eF,h,List.length_map]
theorem aHr{α:Type}{xs:List α}(h:Inn xs.length p):∃z,atI xs p=some z/\z∈xs:=by
 obtain⟨q,rfl⟩:∃q:Nat,p=(q:Nat):=⟨p.toNat,by omega⟩;have hk:q<xs.length:=by omega
 exact⟨xs[q],oR (B8 hk),S1 hk⟩
theorem Li.ix(h:Li M c xs)(hp:Inn xs.length p):∃z,ixF (.c c) (I p) M=some (I z,M):=by
 obtain⟨z,h1,h2⟩:=aHr (xs:=xs.map fun i=>I i) (p:=p) (by rw[A2];exact hp);obtain⟨y,_,rfl⟩:=List.mem_map.mp h2;refine⟨y,?_⟩;unfold Li at h;simp only[ixF,h,h1,Option.bind_some]
theorem Li.put{z:Int}(h:Li M c xs)(hp:Inn xs.length p):∃ys,ys.length=xs.length/\FO (.c c) (I p) (I z) M=some (M.set c (cI ys)):=by
 obtain⟨q,rfl⟩:∃q:Nat,p=(q:Nat):=⟨p.toNat,by omega⟩;refine⟨xs.set q z,by rw[U3],?_⟩
 have hn:ixN (xs.map fun i=>I i).length (q:Int)=some q:=by
  unfold ixN;rw[A3 (Int.natCast_nonneg q),A3 (by rw[A2];omega),I0]
 unfold Li at h;simp only[FO,h,hn,Option.bind_some,cI,List.map_set]
theorem Li.push{z:Int}(h:Li M c xs)(hl:xs.length<1000):bZ (.c c) [I z] M=some (.d .none,M.set c (cI (xs++[z]))):=by
 have l:(xs.map fun i=>I i).length<sizeLine:=by rw[A2,E4];omega
 unfold Li at h;simp only[bZ,h,if_pos l,cI,List.map_append,List.map_singleton]
theorem Li.pop{z:Int}(h:Li M c (xs++[z])):jD (.c c) [] M=some (I z,M.set c (cI xs)):=by
 have e1:((xs++[z]).map fun i=>I i)[((xs++[z]).map fun i=>I i).length-1]?=some (I z):=by
  rw[A2,B4,C6,Nat.add_sub_cancel,C8,B2 (A6 _),D4];rfl
 have e2:((xs++[z]).map fun i=>I i).dropLast=xs.map fun i=>I i:=by
  rw[D3,E8,List.dropLast_concat]
 unfold Li at h;simp only[jD,h,e1,e2,Option.bind_some]
noncomputable def Dk(M:Sto)(c m:Nat):Prop:=∃xs,Li M c xs/\xs.length=m
theorem Dk.app{L:Sto}(h:Dk M c m):Dk (M++L) c m:=let⟨xs,a,b⟩:=h;⟨xs,a.app,b⟩
theorem Dk.pop(h:Dk M c (m+1)):∃z M',jD (.c c) [] M=some (I z,M')/\Dk M' c m/\Oth c M M':=by
 obtain⟨xs,a,b⟩:=h;rcases List.eq_nil_or_concat xs with rfl|⟨ys,z,rfl⟩
 .cases b
 .rw[List.concat_eq_append]at a b;rw[B4,C6]at b;exact⟨z,_,a.pop,⟨ys,(a.set).1,by omega⟩,(a.set).2⟩
theorem Dk.ty(h:Dk M c m):tyB "list" M (.c c)=true:=let⟨_,a,_⟩:=h;a.ty
theorem Dk.oth{d:Nat}(h:Dk M c m)(o:Oth d M M')(ne:c≠d):Dk M' c m:=let⟨xs,a,b⟩:=h;⟨xs,a.oth o ne,b⟩
theorem jF(lo:Int)(n:Nat):fF lo (n+1)=I lo::fF (lo+1) n:=by
 unfold fF;rw[List.range_succ_eq_map,B7,O9];refine congr (F6 List.cons ?_) (Y5 fun k _=>?_)
 .show CD.d (.int (lo+((0:Nat):Int)))=I lo;rw[show lo+((0:Nat):Int)=lo by omega]
 .show CD.d (.int (lo+((k+1:Nat):Int)))=.d (.int (lo+1+(k:Nat)));rw[show lo+((k+1:Nat):Int)=lo+1+(k:Nat)by omega]
theorem YT(h:i.natAbs<2 ^ 64):jC i j=true:=by unfold jC;rw[B1 h];rfl
theorem mul_r(h:j.natAbs<2 ^ 64):jC i j=true:=by unfold jC;rw[B1 h,Bool.or_true];rfl
theorem nab{z:Int}(h0:0<=z)(h1:z<b)(hb:b<=2 ^ 62):z.natAbs<2 ^ 64:=by omega
noncomputable abbrev GD(s many:CD)(r d:Nat)(o:Int)(k at_ one:Option CD):Ga:=[some s,some many,some (.c r),some (I o),some (.c d),k,at_,one]
theorem SN{s many:CD}{r d:Nat}{o k:Int}{ds:List Int}{g6 g7:Option CD}(hr:Li M r xs)(hd:Li M d ds)(ne:r≠d)(x0:0<xs.length)(hl:ds.length<1000)(k0:0<=k)(k1:k<1000):
 ∃xs' ds' g6' g7' M',fR (GD s many r d o (some (I k)) g6 g7) M=some (.nx (GD s many r d o (some (I k)) g6' g7'),M')/\Li M' r xs'/\Li M' d ds'/\xs'.length=xs.length/\ds'.length=ds.length+1:=by
 have ln:=hr.ln;have p1:=O2 k (show(xs.length:Int)≠0 by omega);have p2:=J4 k (show(0:Int)<xs.length by omega);obtain⟨z,ix⟩:=hr.ix (p:=k % xs.length) ⟨p1,p2⟩;have m1:hX k xs.length=true:=dQ (by omega);have m2:∀y,hX y 1000000=true:=fun y=>dQ (by decide);have m3:∀y,hX y 2147483629=true:=fun y=>dQ (by decide);have m4:∀y,hX y 2147483647=true:=fun y=>dQ (by decide);have m5:∀y,hX y 4=true:=fun y=>dQ (by decide);have dv:∀y,vL y 1000000=true:=fun y=>vH (by decide) (wsm (by decide) (by decide));obtain⟨ys,yl,st⟩:=hr.put (p:=k % xs.length) (z:=z / 1000000) ⟨p1,p2⟩;generalize (xs.length:Int)=J at ln p1 p2 ix m1 st;cases h:(o==0)with
 |true=>
  obtain⟨c,hc,hcm⟩:=uY (ds:=([.int 48271,.int 69621,.int 39373,.int 40692]:List PyData)) (k:=k) (m:=4) (by decide) rfl
  obtain⟨cv,rfl,hcv⟩:∃v:Int,c=.int v/\v.natAbs<2 ^ 64:=by
   simp only[List.mem_cons,List.not_mem_nil,or_false]at hcm;rcases hcm with rfl|rfl|rfl|rfl<;>exact⟨_,rfl,by decide⟩
  have xk:ixF (.d (.list [.int 48271,.int 69621,.int 39373,.int 40692])) (I (k % 4)) M=some (I cv,M):=by
   show(atI [PyData.int 48271,.int 69621,.int 39373,.int 40692] (k % 4)).bind _=_;rw[hc];rfl
  have q1:jC k k=true:=YT (nab k0 (b:=1000) k1 (by decide));have q2:jC (k*k) 16807=true:=mul_r (by decide);have q3:jC 3 k=true:=YT (by decide);have q4:∀y,jC y cv=true:=fun y=>mul_r hcv;have a1:∀i j:Int,cC (I i) (I j) M=some (I (i+j),M):=fun i j=>rfl;have q5:∀y,jC (y % 2147483647) (y % 2147483647)=true:=fun y=>YT (nab (O2 _ (by decide)) (J4 _ (by decide)) (by decide));generalize hv:(z+k*k*16807+3*k) % 2147483629=v1;have pu:=fun y=>hd.push (z:=y) hl;refine⟨xs,ds++[(v1*cv+7) % 2147483647*((v1*cv+7) % 2147483647) % 2147483629],some (I (k % J)),some (I ((v1*cv+7) % 2147483647*((v1*cv+7) % 2147483647) % 2147483629)),_,?_,hr.oth (hd.set).2 ne,(hd.set).1,rfl,by rw[B4,C6]⟩;simp![fR,ln,m1,m2,ix,gZ,h,q1,q2,q3,a1,m3,hv,BI,m5,xk,q4,m4,q5,bU,hd.ty,pu]
 |false=>
  have hr':=hr.set (ys:=ys);have hd':=hd.oth hr'.2 (O3 ne);have pu:=hd'.push (z:=z % 1000000) hl;refine⟨ys,ds++[z % 1000000],some (I (k % J)),some (I (z % 1000000)),_,?_,hr'.1.oth (hd'.set).2 ne,(hd'.set).1,yl,by rw[B4,C6]⟩;simp![fR,ln,m1,m2,ix,gZ,h,dv,st,bU,hd'.ty,pu]
theorem EL{s many:CD}{r d:Nat}{o:Int}:∀(m:Nat)(k:Int)(M:Sto)(xs ds:List Int)(g5 g6 g7:Option CD),Li M r xs->Li M d ds->r≠d->0<xs.length->0<=k->k+m<500->ds.length+m<500->
 ∃ds' g5' g6' g7' M',iI (hName 5) fR (fF k m) (GD s many r d o g5 g6 g7) M=some (.nx (GD s many r d o g5' g6' g7'),M')/\Li M' d ds'/\ds'.length=ds.length+m
 |0=>fun k M xs ds g5 g6 g7 hr hd ne x0 k0 _ _=>⟨ds,g5,g6,g7,M,rfl,hd,rfl⟩
 |m+1=>fun k M xs ds g5 g6 g7 hr hd ne x0 k0 hk hl=>by
  obtain⟨xs1,ds1,a6,a7,M1,t,h1,h2,h3,h4⟩:=SN (s:=s) (many:=many) (o:=o) (g6:=g6) (g7:=g7) hr hd ne x0 (by omega) k0 (show k<1000 by omega);obtain⟨ds',b5,b6,b7,M',l,h5,h6⟩:=EL (s:=s) (many:=many) (o:=o) m (k+1) M1 xs1 ds1 (some (I k)) a6 a7 h1 h2 ne (by omega) (by omega) (by omega) (by omega);refine⟨ds',b5,b6,b7,M',?_,h5,by omega⟩;rw[jF,eQ (show hName 5 (I k) (GD s many r d o g5 g6 g7) M=some (GD s many r d o (some (I k)) g6 g7,M)from rfl) t];exact l
theorem BY(n:Nat)(M:Sto):∀ns:List Int,pV n M (ns.map fun i=>I i)=some (ns.map .int)
 |[]=>by unfold pV;rfl
 |i::ns=>by
  rw[B7];unfold pV;rw[VO,A0,BY n M ns];rfl
theorem qO:∀ns:List Int,PyData.canLayAll0 (ns.map .int)=true
 |[]=>rfl
 |n::ns=>by show(true&&PyData.canLayAll0 (ns.map .int))=true;rw[qO ns];rfl
theorem tJ:∀ns:List Int,PyData.depthAll (ns.map .int)=0
 |[]=>rfl
 |n::ns=>by show max 0 (PyData.depthAll (ns.map .int))=0;rw[tJ ns];rfl
theorem shaped_ints(ns:List Int):SeqAt.shaped (.list (ns.map .int))=true:=by
 unfold SeqAt.shaped;have e1:PyData.canLay0 (.list (ns.map .int))=true:=qO ns;have e2:PyData.depth (.list (ns.map .int))=1:=by show PyData.depthAll (ns.map .int)+1=1;rw[tJ]
 rw[e1,e2];rfl
theorem aDa{ns:List Int}(h:Li M c ns):eqY false (.c c) (.d (.list [])) M=some (B ns.isEmpty,M):=by
 have s1:snap 5 M (.c c)=some (.list (ns.map .int)):=by
  unfold Li at h;unfold snap;rw[h];show(pV 4 M (ns.map fun i=>I i)).bind _=_;rw[BY];rfl
 have s2:snap 5 M (.d (.list []))=some (.list []):=by rw[VO]
 show eqC false (.c c) (.d (.list [])) M=_;unfold eqC;rw[s1,A0,s2,A0,shaped_ints,show SeqAt.shaped (.list [])=true from rfl];cases ns<;>rfl
theorem aHC{x:CD}(sm:cG J=true):cZ (aB (aD 1) aG) (x::some (I J)::γ) M=some (fF 0 J.toNat,M):=by
 simp![cZ,sm]
theorem aEG(ns:List Int):∃c M,lU [.d (.list (ns.map .int)),I 110] []=some (.c c,M)/\Dk M c 110:=by
 have s0:(0:Nat)<=sizeLine:=E5 _;have s1:(1:Nat)<=sizeLine:=by decide
 have st:∀(r:Nat)(M:Sto)(xs:List Int),Li M r xs->0<xs.length->∃c M',(aO (aZ (fOp gN (fOp ixF (aD 2) (fC (.int 0))) (fC (.int 2))) (hName 3))
 (aO (aZ (fOp kR (fOp ixF (aD 2) (fC (.int 0))) (fC (.int 2))) (hSub (aD 2) (fC (.int 0)) FO))
 (aO (aZ (kK aG) (hName 4))
 (aO (kW (cZ (aB (aD 1) aG)) (hName 5) fR)
 (aO (lL (bU "list" lG (aD 4) aG))
 (bK (aD 4))))))) [some (.d (.list (ns.map .int))),some (I 110),some (.c r),none,none,none,none,none] M=some (.rt (.c c),M')/\Dk M' c 110:=by
  intro r M xs hr x0;obtain⟨z,ix⟩:=hr.ix (p:=0) ⟨by decide,by omega⟩;have m2:∀y,hX y 2=true:=fun y=>dQ (by decide);have d2:∀y,vL y 2=true:=fun y=>vH (by decide) (wsm (by decide) (by decide));obtain⟨ys,yl,pt⟩:=hr.put (p:=0) (z:=z / 2) ⟨by decide,by omega⟩;have hr1:=(hr.set (ys:=ys)).1;have hr2:=hr1.app (L:=[Cell.lst []]);have ml:(M.set r (cI ys)).length=M.length:=by rw[U3]
  have hd:Li (M.set r (cI ys)++[Cell.lst []]) M.length []:=by
   unfold Li;rw[<- ml,B2 (A6 _),D4];rfl
  have rl:=hr.lt;obtain⟨ds,a5,a6,a7,M',lp,hd',hl⟩:=EL (s:=.d (.list (ns.map .int))) (many:=I 110) (o:=z % 2) 110 0 _ ys [] none none none hr2 hd (by omega) (by omega) (by decide) (by decide) (by decide);have rg:cZ (aB (aD 1) aG) (GD (.d (.list (ns.map .int))) (I 110) r M.length (z % 2) none none none) (M.set r (cI ys)++[Cell.lst []])=some (fF 0 110,M.set r (cI ys)++[Cell.lst []]):=aHC (J:=110) (by decide);have sf:=nH rg lp
  have rv:lG (.c M.length) [] M'=some (.d .none,M'.set M.length (cI ds.reverse)):=by
   have:=hd';unfold Li at this;simp only[lG,this];rw[cI,List.map_reverse]
  refine⟨M.length,M'.set M.length (cI ds.reverse),?_,ds.reverse,(hd'.set).1,by rw[S9,hl];rfl⟩
  have a1:aZ (fOp gN (fOp ixF (aD 2) (fC (.int 0))) (fC (.int 2))) (hName 3) [some (.d (.list (ns.map .int))),some (I 110),some (.c r),none,none,none,none,none] M=some (.nx [some (.d (.list (ns.map .int))),some (I 110),some (.c r),some (I (z % 2)),none,none,none,none],M):=by
   simp![ix,m2]
  have a2:aZ (fOp kR (fOp ixF (aD 2) (fC (.int 0))) (fC (.int 2))) (hSub (aD 2) (fC (.int 0)) FO) [some (.d (.list (ns.map .int))),some (I 110),some (.c r),some (I (z % 2)),none,none,none,none] M=some (.nx [some (.d (.list (ns.map .int))),some (I 110),some (.c r),some (I (z % 2)),none,none,none,none],M.set r (cI ys)):=by
   simp![ix,d2,pt]
  have a3:aZ (kK aG) (hName 4) [some (.d (.list (ns.map .int))),some (I 110),some (.c r),some (I (z % 2)),none,none,none,none] (M.set r (cI ys))=some (.nx (GD (.d (.list (ns.map .int))) (I 110) r M.length (z % 2) none none none),M.set r (cI ys)++[Cell.lst []]):=by
   simp![s0,ml]
  rw[bF a1,bF a2,bF a3,bF sf];simp![bU,hd'.ty,rv]
 have l0:CW [.d (.list (ns.map .int))] []=some (.c 0,[cI ns]):=by
  show some (CD.c 0,[]++[Cell.lst ((ns.map PyData.int).map .d)])=_;rw[O9];rfl
 have h0:Li [cI ns] 0 ns:=rfl;have eq:=aDa h0
 have b1:aZ (aK CW (aB (aD 0) aG)) (hName 2) [some (.d (.list (ns.map .int))),some (I 110),none,none,none,none,none,none] []=some (.nx [some (.d (.list (ns.map .int))),some (I 110),some (.c 0),none,none,none,none,none],[cI ns]):=by
  simp![l0]
 cases he:ns.isEmpty with
 |true=>
  rw[he]at eq;obtain⟨c,M',h1,h2⟩:=st 1 ([cI ns]++[cI [4]]) [4] rfl (by decide);refine⟨c,M',xH rfl ?_,h2⟩
  have b2:sIf (gB (fOp (eqY false) (aD 2) (fP aG))) (aZ (kK (aB (fC (.int 4)) aG)) (hName 2)) bC [some (.d (.list (ns.map .int))),some (I 110),some (.c 0),none,none,none,none,none] [cI ns]=some (.nx [some (.d (.list (ns.map .int))),some (I 110),some (.c 1),none,none,none,none,none],[cI ns]++[cI [4]]):=by
   simp![s0,s1,eq];rfl
  unfold mG;show aO _ _ [some (.d (.list (ns.map .int))),some (I 110),none,none,none,none,none,none] []=_;rw[bF b1,bF b2];exact h1
 |false=>
  rw[he]at eq;obtain⟨c,M',h1,h2⟩:=st 0 [cI ns] ns rfl (by cases ns with|nil=>cases he|cons _ _=>simp);refine⟨c,M',xH rfl ?_,h2⟩
  have b2:sIf (gB (fOp (eqY false) (aD 2) (fP aG))) (aZ (kK (aB (fC (.int 4)) aG)) (hName 2)) bC [some (.d (.list (ns.map .int))),some (I 110),some (.c 0),none,none,none,none,none] [cI ns]=some (.nx [some (.d (.list (ns.map .int))),some (I 110),some (.c 0),none,none,none,none,none],[cI ns]):=by
   simp![s0,s1,eq]
  unfold mG;show aO _ _ [some (.d (.list (ns.map .int))),some (I 110),none,none,none,none,none,none] []=_;rw[bF b1,bF b2];exact h1
noncomputable def EI:List PyData:=[(.tuple [(.int 0),(.int 1)]),(.tuple [(.int 1),(.int 1)]),(.tuple [(.int 1),(.int 1)]),(.tuple [(.int 2),(.int 1)]),(.tuple [(.int 1),(.int 2)]),(.tuple [(.int 3),(.int 4)]),(.tuple [(.int 1000000000000000000000000000000),(.int 7)]),(.tuple [(.int 5),(.int 100000000000000000039)])]
theorem ZK:∀d∈EI,∃a b,d=.tuple [.int a,.int b]/\Am a b:=by
 intro d hd;unfold EI at hd;simp only[List.mem_cons,List.not_mem_nil,or_false]at hd;rcases hd with rfl|rfl|rfl|rfl|rfl|rfl|rfl|rfl<;>exact⟨_,_,rfl,by decide +kernel,by decide,by decide⟩
theorem UV(k:Int)(M:Sto):∃a b,iY [I k] M=some (.d (.tuple [.int a,.int b]),M)/\Am a b:=by
 obtain⟨d,h1,h2⟩:=uY (ds:=EI) (k:=k) (m:=8) (by decide) rfl;obtain⟨a,b,rfl,am⟩:=ZK d h2;refine⟨a,b,?_,am⟩;have k0:∀γ,jP γ M=some (.d (.list EI),M):=fun γ=>vW γ M;have mk:hX k 8=true:=dQ (by decide)
 have ix:ixF (.d (.list EI)) (I (k % 8)) M=some (.d (.tuple [.int a,.int b]),M):=by
  show(atI EI (k % 8)).bind _=_;rw[h1];rfl
 simp![iY,mZ,k0,mk,ix]
structure Rows(us:List Tie):Prop where
 js:us.map Tie.j=(List.range us.length).map fun q=>((q+1:Nat):Int)
 is:∀t∈us,0<=t.i/\t.i<t.j
 am:∀t∈us,Am t.a t.b
theorem Rows.nil:Rows []:=⟨rfl,(by intro t ht;cases ht),(by intro t ht;cases ht)⟩
theorem Rows.snoc{t:Tie}(h:Rows us)(hj:t.j=((us.length+1:Nat):Int))(hi:0<=t.i/\t.i<t.j)(ha:Am t.a t.b):Rows (us++[t]):=by
 refine⟨?_,fun s hs=>?_,fun s hs=>?_⟩
 .rw[D3,h.js,B4,C6,List.range_succ,D3,E8,E8,hj]
 .rcases List.mem_append.mp hs with hs|hs
  .exact h.is s hs
  .rw[D2]at hs;rw[hs];exact hi
 .rcases List.mem_append.mp hs with hs|hs
  .exact h.am s hs
  .rw[D2]at hs;rw[hs];exact ha
noncomputable abbrev rC(us:List Tie):Cell:=.lst ((us.map rD).map .d)
noncomputable abbrev GW(c:Nat)(n:CD)(r:Nat)(k d:Option CD):Ga:=[some (.c c),some n,some (.c r),k,d]
theorem UD{r:Nat}{n:CD}{k:Int}{g4:Option CD}(hd:Dk M c (m+1))(hr:M[r]?=some (rC us))(ne:r≠c)(k0:0<k)(hl:us.length<500):
 ∃t g4' M',iG (GW c n r (some (I k)) g4) M=some (.nx (GW c n r (some (I k)) g4'),M')/\Dk M' c m/\M'[r]?=some (rC (us++[t]))/\t.j=k/\(0<=t.i/\t.i<t.j)/\Am t.a t.b:=by
 obtain⟨z,M1,po,d1,o1⟩:=hd.pop;obtain⟨a,b,ea,am⟩:=UV (z / 64) M1;have hr1:M1[r]?=some (rC us):=by rw[o1.at_ r ne];exact hr
 have rl:=(List.getElem?_eq_some_iff.mp hr1).1;have p1:=O2 z (show k≠0 by omega);have p2:=J4 z k0;have mk:hX z k=true:=dQ k0;have dv:vL z 64=true:=vH (by decide) (wsm (by decide) (by decide));have s3:(3:Nat)<=sizeLine:=by decide
 have ty:tyB "list" M1 (.c r)=true:=by simp only[tyB,hr1];decide
 have l:((us.map rD).map CD.d).length<sizeLine:=by rw[A2,A2,E4];omega
 have pu:bZ (.c r) [.d (.tuple [.int (z % k),.int k,.tuple [.int a,.int b]])] M1=some (.d .none,M1.set r (rC (us++[⟨z % k,k,a,b⟩]))):=by
  simp only[bZ,hr1,if_pos l,rC,List.map_append,List.map_singleton];rfl
 refine⟨⟨z % k,k,a,b⟩,some (I z),M1.set r (rC (us++[⟨z % k,k,a,b⟩])),?_,?_,by rw[L8 rl],rfl,⟨p1,p2⟩,am⟩
 .simp![iG,bU,hd.ty,po,mk,dv,ea,s3,ty,pu]
 .exact d1.oth (d:=r) ⟨by rw[U3],fun i hi=>by rw[O7 (O3 hi)]⟩ (O3 ne)
theorem EC{c r:Nat}{n:CD}:∀(q m:Nat)(us:List Tie)(M:Sto)(g3 g4:Option CD),Dk M c (q+m)->M[r]?=some (rC us)->r≠c->us.length+q<500->Rows us->
 ∃us' g3' g4' M',iI (hName 3) iG (fF ((us.length+1:Nat):Int) q) (GW c n r g3 g4) M=some (.nx (GW c n r g3' g4'),M')/\Dk M' c m/\M'[r]?=some (rC us')/\us'.length=us.length+q/\Rows us'
 |0=>fun m us M g3 g4 hd hr ne _ hR=>⟨us,g3,g4,M,rfl,by rw[Nat.zero_add]at hd;exact hd,hr,rfl,hR⟩
 |q+1=>fun m us M g3 g4 hd hr ne hl hR=>by
  rw[show q+1+m=q+m+1 by omega]at hd;obtain⟨t,a4,M1,tn,d1,r1,h1,h2,h3⟩:=UD (n:=n) (k:=((us.length+1:Nat):Int)) (g4:=g4) hd hr ne (by omega) (by omega);have R1:=hR.snoc h1 h2 h3;have ln:(us++[t]).length=us.length+1:=by rw[B4,C6]
  obtain⟨us',b3,b4,M',lp,e1,e2,e3,e4⟩:=EC (n:=n) q m (us++[t]) M1 (some (I ((us.length+1:Nat):Int))) a4 d1 r1 ne (by omega) R1;refine⟨us',b3,b4,M',?_,e1,e2,by omega,e4⟩;rw[jF,eQ (show hName 3 (I ((us.length+1:Nat):Int)) (GW c n r g3 g4) M=some (GW c n r (some (I ((us.length+1:Nat):Int))) g4,M)from rfl) tn,<- lp,ln];rfl
theorem aCs(h:Rows us):(us.map Tie.key).Nodup:=by
 have h1:(us.map Tie.j).Nodup:=by
  rw[h.js,S3,Z5];exact(List.nodup_iff_pairwise_ne.mp List.nodup_range).imp fun a b=>a (by omega)
 rw[S3,Z5]at h1 ⊢;exact h1.imp fun a b=>a (F6 Prod.snd b)
theorem aFF{x:CD}(sm:cG J=true):EY (aB (fC (.int 1)) (aB (aD 1) aG)) (some x::some (I J)::γ) M=some (fF 1 (J-1).toNat,M):=by
 have s1:cG 1=true:=by decide
 have h:cG 1=true/\cG J=true:=⟨s1,sm⟩;unfold EY;rw[show aB (fC (.int 1)) (aB (aD 1) aG) (some x::some (I J)::γ) M=some ([I 1,I J],M)from rfl,A0];dsimp only;rw[A3 h]
theorem aBW(hd:Dk M c (n-1+m))(h0:0<n)(h40:n<=40):∃(us vs:List Tie)(M':Sto),gJ [.c c,I n] M=some (.d (.tuple (vs.map rD)),M')/\Dk M' c m/\us.length=n-1/\Rows us/\vs.Perm us/\vs.Pairwise Tie.lt:=by
 have cl:c<M.length:=let⟨_,a,_⟩:=hd;a.lt;have hr:(M++[rC []])[M.length]?=some (rC []):=by rw[B2 (A6 _),D4];rfl
 obtain⟨us,a3,a4,M',lp,d1,r1,hl,hR⟩:=EC (r:=M.length) (n:=I n) (n-1) m [] (M++[rC []]) none none hd.app hr (by omega) (by show 0+(n-1)<500;omega) Rows.nil;have hl:us.length=n-1:=by rw[hl];exact Nat.zero_add _
 obtain⟨vs,hp,hv,so⟩:=SW r1 (by omega)
 have rg:EY (aB (fC (.int 1)) (aB (aD 1) aG)) (GW c (I n) M.length none none) (M++[rC []])=some (fF 1 (n-1),M++[rC []]):=by
  have:=aFF (J:=(n:Int)) (x:=.c c) (γ:=[some (.c M.length),none,none]) (M:=M++[rC []]) (kL (by omega) (by omega));rw[show((n:Int)-1).toNat=n-1 by omega]at this;exact this
 have sf:=nH rg lp;have s0:(0:Nat)<=sizeLine:=E5 _;refine⟨us,vs,M',xH rfl ?_,d1,hl,hR,hp,hv (aCs hR)⟩;generalize (n:Int)=J at sf ⊢
 have a1:aZ (kK aG) (hName 2) [some (.c c),some (I J),none,none,none] M=some (.nx (GW c (I J) M.length none none),M++[rC []]):=by
  simp![s0];rfl
 have tv:dN [.d (.list (vs.map rD))] M'=some (.d (.tuple (vs.map rD)),M'):=rfl;unfold nZ;show aO _ _ [some (.c c),some (I J),none,none,none] M=_;rw[bF a1,bF sf];simp![so,tv]
theorem aAV{t:Tie}(hi:0<=t.i/\t.i<t.j)(hj:t.j<n)(ha:Am t.a t.b):bI n (rD t)=some t.key:=by
 rw[NG (show aQ (rD t)=some [.int t.i,.int t.j,.tuple [.int t.a,.int t.b]]from rfl)];unfold OR;show(if (decide (0<=t.i)&&decide (t.i<t.j)&&decide (t.j<(n:Int))&&sH t.a t.b)=true then some (t.i,t.j)else none)=_;rw[B1 hi.1,B1 hi.2,B1 hj,ha.am];rfl
theorem yO{n:Nat}:∀{vs:List Tie},(∀t∈vs,(0<=t.i/\t.i<t.j)/\t.j<n/\Am t.a t.b)->(vs.map rD).mapM (bI n)=some (vs.map Tie.key)
 |[]=>fun _=>rfl
 |t::vs=>fun h=>by
  obtain⟨a,b,c⟩:=h t (B0 ..);rw[B7,U0,aAV a b c,yO fun s hs=>h s (A9 _ hs)];rfl
theorem VZ:∀{vs:List Tie},vs.Pairwise Tie.lt->ris (vs.map Tie.key)=true
 |[]=>fun _=>rfl
 |[_]=>fun _=>rfl
 |a::b::r=>fun h=>by
  obtain⟨h1,h2⟩:=List.pairwise_cons.mp h;have ih:=VZ h2;have ab:=h1 b (B0 ..)
  have e:mR a.key b.key=true:=by
   unfold mR Tie.key;unfold Tie.lt at ab;split
   .exact B1 (by dsimp only at *;omega)
   .exact B1 (by dsimp only at *;omega)
  show(mR a.key b.key&&ris ((b::r).map Tie.key))=true;rw[e,ih];rfl
theorem NH{vs:List Tie}(h0:0<n)(hl:us.length=n-1)(hR:Rows us)(hp:vs.Perm us)(hv:vs.Pairwise Tie.lt):eN n (.tuple (vs.map rD))=true:=by
 have jn:∀t∈us,0<t.j/\t.j<n:=fun t ht=>by
  have:t.j∈us.map Tie.j:=List.mem_map.mpr ⟨t,ht,rfl⟩;rw[hR.js]at this;obtain⟨q,hq,e⟩:=List.mem_map.mp this;have:=List.mem_range.mp hq;omega
 have all:∀t∈vs,(0<=t.i/\t.i<t.j)/\t.j<n/\Am t.a t.b:=fun t ht=>by
  have ht:=hp.mem_iff.mp ht;exact⟨hR.is t ht,(jn t ht).2,hR.am t ht⟩
 have vl:(vs.map rD).length+1=n:=by rw[A2,hp.length_eq];omega
 have ok:Oks n (vs.map Tie.key):=nS (yO all);unfold eN;rw[show aQ (.tuple (vs.map rD))=some (vs.map rD)from rfl];dsimp only;rw[B1 vl,yO all];dsimp only;rw[VZ hv,E7,E7,wO h0 (by rw[A2,hp.length_eq];omega) ok]
 have go:∀q:Nat,(q:Int)<n->at0 (gS n (vs.map Tie.key)) q=at0 (gS n (vs.map Tie.key)) 0:=by
  intro q
  induction q using Nat.strongRecOn with
  |ind q ih=>
   intro hq;by_cases q0:q=0
   .rw[q0];rfl
   .have:(q:Int)∈us.map Tie.j:=by
     rw[hR.js];exact List.mem_map.mpr ⟨q-1,List.mem_range.mpr (by omega),by omega⟩
    obtain⟨t,ht,e⟩:=List.mem_map.mp this;have ti:=hR.is t ht;have ed:=wG ok (t:=t.key) (List.mem_map.mpr ⟨t,hp.mem_iff.mpr ht,rfl⟩);dsimp only at ed;rw[<- e,<- ed];have:=ih t.i.toNat (by omega) (by omega);rw[show((t.i.toNat:Nat):Int)=t.i by omega]at this;exact this
 intro p hp';have:=go p.toNat (by omega);rw[show((p.toNat:Nat):Int)=p by omega]at this;exact this
theorem vS{us:List Ed}{c d k:Int}(h:Lies us 0 a b k)(g:Lies us 0 c d k):(c=a/\d=b)\/(c=b/\d=a):=by
 obtain⟨i,t,h1,h2,h3⟩:=h;obtain⟨j,s,g1,g2,g3⟩:=g;have:i=j:=by omega
 subst this;rw[h1]at g1;cases g1;rcases h3 with⟨rfl,rfl⟩|⟨rfl,rfl⟩<;>rcases g3 with⟨rfl,rfl⟩|⟨rfl,rfl⟩<;>simp
theorem BU{us:List Ed}{k:Int}(h:Lies us 0 a b k):Lies us 0 b a k:=by
 obtain⟨i,t,h1,h2,h3⟩:=h;exact⟨i,t,h1,h2,h3.elim (fun x=>.inr ⟨x.2,x.1⟩) (fun x=>.inl ⟨x.2,x.1⟩)⟩
theorem GI{us:List Ed}{k:Int}(h:Lies us 0 a b k):Inn us.length k:=by
 obtain⟨i,t,h1,h2,h3⟩:=h;have:=(List.getElem?_eq_some_iff.mp h1).1;exact⟨by omega,by omega⟩
theorem aAB{us:List Ed}(ok:Oks n us){k:Int}(h:Lies us 0 a b k):Inn n a/\Inn n b:=by
 rcases IY h with h|h
 .exact ok _ h
 .exact(ok _ h).symm
noncomputable def Walk(us:List Ed):Int->List Int->Int->Prop
 |a,[],b=>a=b
 |a,k::L,b=>∃c,Lies us 0 a c k/\Walk us c L b
theorem wN{us:List Ed}:∀{L:List Int}{a b c k:Int},Walk us a L b->Lies us 0 b c k->Walk us a (L++[k]) c
 |[],a,b,c,k,h=>fun g=>by
  have h:a=b:=h;subst h;exact⟨c,g,rfl⟩
 |q::L,a,b,c,k,⟨d,h1,h2⟩=>fun g=>⟨d,h1,wN h2 g⟩
theorem LH{us:List Ed}:∀{L:List Int}{a b:Int},Walk us a L b->Walk us b L.reverse a
 |[],a,b,h=>(show a=b from h).symm
 |k::L,a,b,⟨c,h1,h2⟩=>by
  rw[O0];exact wN (LH h2) (BU h1)
theorem QB{us:List Ed}:∀{L:List Int}{a b:Int},Walk us a L b->∀k∈L,Inn us.length k
 |[],_,_,_=>fun k hk=>by cases hk
 |q::L,a,b,⟨c,h1,h2⟩=>fun k hk=>by
  rcases List.mem_cons.mp hk with rfl|hk
  .exact GI h1
  .exact QB h2 k hk
structure gP(n:Nat)(us:List Ed)(r:Int)(ss:List (Int×Int×Int)):Prop where
 nd:(r::ss.map (·.2.1)).Nodup
 all:∀x,Inn n x↔x∈r::ss.map (·.2.1)
 od:∀(q:Nat)(h t a:Int),ss[q]?=some (h,t,a)->h∈r::(ss.take q).map (·.2.1)
 li:∀(h t a:Int),(h,t,a)∈ss->Lies us 0 h t a
 ln:us.length+1=n
section
variable{n:Nat}{us:List Ed}{r:Int}{ss:List (Int×Int×Int)}
theorem gP.len(R:gP n us r ss):ss.length=us.length:=by
 have:=(vZ R.nd fun x hx=>(R.all x).mpr hx).mpr fun p hp=>(R.all p).mp hp;rw[D0,A2]at this;have:=R.ln;omega
theorem gP.one(R:gP n us r ss){h' t a':Int}(e:(h,t,a)∈ss)(e':(h',t,a')∈ss):h=h'/\a=a':=by
 have nd:=(List.nodup_cons.mp R.nd).2;obtain⟨i,hi⟩:=O8 e;obtain⟨j,hj⟩:=O8 e';have li:=(List.getElem?_eq_some_iff.mp hi).1;have lj:=(List.getElem?_eq_some_iff.mp hj).1
 have ij:i=j:=(Y2 (h₀:=by rw[A2];exact li) (h₁:=by rw[A2];exact lj) nd).mp (by
  rw[S2,S2,(List.getElem?_eq_some_iff.mp hi).2,(List.getElem?_eq_some_iff.mp hj).2])
 subst ij;rw[hi]at hj;cases hj;exact⟨rfl,rfl⟩
theorem gP.root(R:gP n us r ss)(e:(h,r,a)∈ss):False:=(List.nodup_cons.mp R.nd).1 (List.mem_map.mpr ⟨_,e,rfl⟩)
theorem gP.ats(R:gP n us r ss):(ss.map (·.2.2)).Nodup:=by
 rw[S3,Z5,List.pairwise_iff_getElem];intro i j hi hj hij e;obtain⟨hi',hj'⟩:ss[i]?=some ss[i]/\ss[j]?=some ss[j]:=⟨B8 hi,B8 hj⟩;generalize ss[i]=x at hi' e;generalize ss[j]=y at hj' e;obtain⟨h1,t1,a1⟩:=x;obtain⟨h2,t2,a2⟩:=y;have e:a1=a2:=e;subst e;have p1:=R.li _ _ _ (L7 hi');have p2:=R.li _ _ _ (L7 hj');have nd:=(List.nodup_cons.mp R.nd).2
 have inj:∀k (hk:ss[k]?=some (h2,t2,a1)\/∃h a,ss[k]?=some (h,t2,a)),k=j:=fun k hk=>by
  obtain⟨h,a,hk⟩:∃h a,ss[k]?=some (h,t2,a):=by
   rcases hk with hk|hk
   .exact⟨_,_,hk⟩
   .exact hk
  have lk:=(List.getElem?_eq_some_iff.mp hk).1
  exact(Y2 (h₀:=by rw[A2];exact lk) (h₁:=by rw[A2];exact hj) nd).mp (by
   rw[S2,S2,(List.getElem?_eq_some_iff.mp hk).2,(List.getElem?_eq_some_iff.mp hj').2])
 rcases vS p1 p2 with⟨_,q⟩|⟨_,q⟩
 .subst q;have:=inj i (.inr ⟨_,_,hi'⟩);omega
 .subst q;rcases List.mem_cons.mp (R.od i _ _ _ hi')with z|z
  .subst z;exact R.root (L7 hj')
  .obtain⟨⟨h3,t3,a3⟩,m,z⟩:=List.mem_map.mp z;have z:t3=t2:=z;subst z;obtain⟨k,hk⟩:=O8 m;have lk:=(List.getElem?_eq_some_iff.mp hk).1;rw[O6]at lk;rw[Y6 (by omega)]at hk;have:=inj k (.inr ⟨_,_,hk⟩);omega
theorem gP.edge(R:gP n us r ss){c k:Int}(h:Lies us 0 a c k):(c,a,k)∈ss\/(a,c,k)∈ss:=by
 have full:=(vZ (n:=us.length) R.ats fun x hx=>by
  obtain⟨⟨h,t,a⟩,m,rfl⟩:=List.mem_map.mp hx;exact GI (R.li _ _ _ m)).mp (by rw[A2,R.len])
 obtain⟨⟨h1,t1,a1⟩,m,e⟩:=List.mem_map.mp (full k (GI h));have e:a1=k:=e;subst e;rcases vS (R.li _ _ _ m) h with⟨rfl,rfl⟩|⟨rfl,rfl⟩
 .exact .inr m
 .exact .inl m
theorem gP.down(R:gP n us r ss):∀{L:List Int}{a c k:Int},(a,c,k)∈ss->Walk us c L r->(k::L).Nodup->False
 |[],a,c,k,m,w=>fun _=>by
  have w:c=r:=w;subst w;exact R.root m
 |k2::L,a,c,k,m,⟨d,h1,h2⟩=>fun nd=>by
  have ne:k≠k2:=fun z=>(List.nodup_cons.mp nd).1 (z▸B0 ..);rcases R.edge h1 with m2|m2
  .exact ne (R.one m m2).2
  .exact R.down m2 h2 (List.nodup_cons.mp nd).2
theorem gP.up(R:gP n us r ss){k:Int}(w:Walk us a (k::L) r)(nd:(k::L).Nodup):∃h,(h,a,k)∈ss/\Walk us h L r:=by
 obtain⟨c,h1,h2⟩:=w;rcases R.edge h1 with m|m
 .exact⟨c,m,h2⟩
 .exact(R.down m h2 nd).elim
theorem gP.uniq(R:gP n us r ss):∀{L K:List Int}{a:Int},Walk us a L r->L.Nodup->Walk us a K r->K.Nodup->L=K
 |[],[],_=>fun _ _ _ _=>rfl
 |[],k::K,a=>fun w _ v nd=>by
  obtain⟨h,m,_⟩:=R.up v nd;have w:a=r:=w;subst w;exact(R.root m).elim
 |k::L,[],a=>fun w nd v _=>by
  obtain⟨h,m,_⟩:=R.up w nd;have v:a=r:=v;subst v;exact(R.root m).elim
 |k::L,q::K,a=>fun w nd v nd2=>by
  obtain⟨h,m,w2⟩:=R.up w nd;obtain⟨g,m2,v2⟩:=R.up v nd2;obtain⟨e1,e2⟩:=R.one m m2;subst e1 e2;rw[R.uniq w2 (List.nodup_cons.mp nd).2 v2 (List.nodup_cons.mp nd2).2]
end
theorem gP.of{us:List Ed}{fs:List Int}{ss:List (Int×Int×Int)}(ok:Oks n us)(hr:Inn n r)(ln:us.length+1=n)(h:xZ n (sG n us) (fun q=>at0 (gS n us) q=at0 (gS n us) r) r ⟨fs,[],ss⟩)(con:∀p,Inn n p->at0 (gS n us) p=at0 (gS n us) r):gP n us r ss:=by
 have full:=(vZ h.nd fun x hx=>(h.ok x hx).1).mp ((h.done ok hr).mpr con);have st:fs=r::ss.map (·.2.1):=h.st;have nd:=h.nd;have hk:=h.ok;dsimp only at full nd hk;rw[st]at full nd hk
 have hd:∀(q:Nat)(g t a:Int),ss[q]?=some (g,t,a)->g∈r::ss.map (·.2.1):=fun q g t a e=>by
  rcases List.mem_cons.mp (h.od q g t a e).1 with z|z
  .rw[z];exact B0 ..
  .obtain⟨y,hy,e⟩:=List.mem_map.mp z;exact A9 _ (List.mem_map.mpr ⟨y,List.mem_of_mem_take hy,e⟩)
 refine⟨nd,fun x=>⟨fun hx=>full x hx,fun hx=>(hk x hx).1⟩,fun q g t a e=>(h.od q g t a e).1,fun g t a m=>?_,ln⟩;obtain⟨q,hq⟩:=O8 m;exact(uG ok (hk g (hd q g t a hq)).1).mp (h.od q g t a hq).2
noncomputable abbrev Wd':=List (Int×List Int)
noncomputable def look(fd:Wd')(x:Int):Option (List Int):=(fd.find? fun e=>decide (e.1=x)).map (·.2)
noncomputable abbrev kys(fd:Wd'):List Int:=fd.map (·.1)
theorem rY{fd:Wd'}{x:Int}(h:look fd x=some L):(x,L)∈fd:=by
 unfold look at h;obtain⟨e,h1,h2⟩:=Option.map_eq_some_iff.mp h;have a:=List.mem_of_find?_eq_some h1;have b:e.1=x:=by simpa using List.find?_some h1
 obtain⟨y,K⟩:=e;dsimp only at b h2;subst b h2;exact a
theorem look_none{fd:Wd'}{x:Int}:look fd x=none↔x∉kys fd:=by
 unfold look;rw[Option.map_eq_none_iff,List.find?_eq_none];constructor
 .intro h m;obtain⟨e,he,q⟩:=List.mem_map.mp m;exact h e he (B1 q)
 .intro h e he q;exact h (List.mem_map.mpr ⟨e,he,D6 q⟩)
theorem BC{fd:Wd'}{x:Int}(h:look fd x=some L):x∈kys fd:=List.mem_map.mpr ⟨_,rY h,rfl⟩
theorem aCh{fd:Wd'}{x:Int}(h:x∈kys fd):∃L,look fd x=some L:=by
 cases e:look fd x with
 |none=>exact absurd h (look_none.mp e)
 |some L=>exact⟨L,rfl⟩
noncomputable def pH(fd:Wd')(k:Int)(e:Ed):Wd':=match look fd e.1,look fd e.2 with
 |some L,none=>fd++[(e.2,L++[k])]
 |none,some L=>fd++[(e.1,L++[k])]
 |_,_=>fd
structure Wy(us:List Ed)(f:Int)(fd:Wd'):Prop where
 nd:(kys fd).Nodup
 has:(f,[])∈fd
 ok:∀p L,(p,L)∈fd->Walk us f L p/\L.Nodup/\∀k∈L,∃a b,Lies us 0 a b k/\a∈kys fd/\b∈kys fd
theorem Wy.start{us:List Ed}:Wy us f [(f,[])]:=⟨by simp,List.mem_singleton.mpr rfl,fun p L h=>by
 rw[D2]at h;cases h;exact⟨rfl,A0f,fun k hk=>by cases hk⟩⟩
theorem Wy.add{us:List Ed}{fd:Wd'}{k:Int}(h:Wy us f fd)(hi:look fd i=some L)(hj:look fd j=none)(hk:Lies us 0 i j k):Wy us f (fd++[(j,L++[k])]):=by
 have nj:=look_none.mp hj;have ki:=BC hi;obtain⟨w,nd,en⟩:=h.ok i L (rY hi)
 have nk:k∉L:=fun m=>by
  obtain⟨a,b,h1,h2,h3⟩:=en k m;rcases vS hk h1 with⟨_,z⟩|⟨z,_⟩
  .exact nj (z▸h3)
  .exact nj (z▸h2)
 have up:∀x,x∈kys fd->x∈kys (fd++[(j,L++[k])]):=fun x hx=>by
  unfold kys at hx ⊢;rw[D3];exact C9 _ hx
 have uj:j∈kys (fd++[(j,L++[k])]):=by
  unfold kys;rw[D3];exact C0 _ (List.mem_singleton.mpr rfl)
 refine⟨?_,C9 _ h.has,fun p K m=>?_⟩
 .unfold kys;rw[D3,U7]
  exact⟨h.nd,by simp,fun a ha b hb q=>by
   rw[E8,D2]at hb;have hb:b=j:=hb;exact nj (by rw[<- hb,<- q];exact ha)⟩
 .rcases List.mem_append.mp m with m|m
  .obtain⟨w,nd,en⟩:=h.ok p K m;exact⟨w,nd,fun q hq=>let⟨a,b,h1,h2,h3⟩:=en q hq;⟨a,b,h1,up a h2,up b h3⟩⟩
  .rw[D2]at m;cases m;refine⟨wN w hk,?_,fun q hq=>?_⟩
   .rw[U7];exact⟨nd,by simp,fun a ha b hb q=>by rw[D2]at hb;exact nk (by rw[<- hb,<- q];exact ha)⟩
   .rcases List.mem_append.mp hq with hq|hq
    .obtain⟨a,b,h1,h2,h3⟩:=en q hq;exact⟨a,b,h1,up a h2,up b h3⟩
    .rw[D2]at hq;exact⟨i,j,by rw[hq];exact hk,up i ki,uj⟩
theorem Wy.step{us:List Ed}{fd:Wd'}{k:Nat}{e:Ed}(h:Wy us f fd)(he:us[k]?=some e):Wy us f (pH fd (k:Nat) e):=by
 have l1:Lies us 0 e.1 e.2 (k:Nat):=⟨k,e,he,by simp,.inl ⟨rfl,rfl⟩⟩;unfold pH;cases a:look fd e.1 with
 |none=>
  cases b:look fd e.2 with
  |none=>exact h
  |some L=>exact h.add b a (BU l1)
 |some L=>
  cases b:look fd e.2 with
  |none=>exact h.add a b l1
  |some K=>exact h
theorem VF(fd:Wd')(k:Int)(e:Ed):fd.length<=(pH fd k e).length/\((pH fd k e).length=fd.length->pH fd k e=fd/\(e.1∈kys fd↔e.2∈kys fd)):=by
 unfold pH;cases a:look fd e.1 with
 |none=>
  cases b:look fd e.2 with
  |none=>exact⟨A6 _,fun _=>⟨rfl,⟨fun z=>absurd z (look_none.mp a),fun z=>absurd z (look_none.mp b)⟩⟩⟩
  |some L=>simp
 |some L=>
  cases b:look fd e.2 with
  |none=>simp
  |some K=>exact⟨A6 _,fun _=>⟨rfl,⟨fun _=>BC b,fun _=>BC a⟩⟩⟩
noncomputable def pA:Wd'->Nat->List Ed->Wd'
 |fd,_,[]=>fd
 |fd,k,e::es=>pA (pH fd (k:Nat) e) (k+1) es
theorem Wy.pass{us:List Ed}{f:Int}:∀{es:List Ed}{fd:Wd'}{k:Nat},Wy us f fd->us.drop k=es->Wy us f (pA fd k es)
 |[],fd,k=>fun h _=>h
 |e::es,fd,k=>fun h hd=>by
  have he:us[k]?=some e:=by
   have:=F6 (fun l=>l[0]?) hd;simpa[List.getElem?_drop]using this
  have hd':us.drop (k+1)=es:=by
   rw[<- List.drop_drop,hd];rfl
  show Wy us f (pA (pH fd (k:Nat) e) (k+1) es);exact Wy.pass (h.step he) hd'
theorem AR:∀(es:List Ed)(fd:Wd')(k:Nat),fd.length<=(pA fd k es).length/\((pA fd k es).length=fd.length->∀e∈es,(e.1∈kys fd↔e.2∈kys fd))
 |[]=>fun fd k=>⟨A6 _,fun _ e he=>by cases he⟩
 |e::es=>fun fd k=>by
  obtain⟨a,b⟩:=VF fd (k:Nat) e;obtain⟨c,d⟩:=AR es (pH fd (k:Nat) e) (k+1);unfold pA;refine⟨F0 a c,fun q g hg=>?_⟩;obtain⟨b1,b2⟩:=b (by omega);rw[b1]at c d q;rcases List.mem_cons.mp hg with rfl|hg
  .exact b2
  .exact d q g hg
theorem Wy.inn{us:List Ed}{fd:Wd'}(ok:Oks n us)(hf:Inn n f)(h:Wy us f fd):∀x∈kys fd,Inn n x:=fun x hx=>by
 obtain⟨⟨p,L⟩,m,e⟩:=List.mem_map.mp hx;have e:p=x:=e;subst e
 have go:∀{L:List Int}{a b:Int},Walk us a L b->Inn n a->Inn n b:=by
  intro L
  induction L with
  |nil=>intro a b w i;have w:a=b:=w;exact w▸i
  |cons k L ih=>intro a b w i;obtain⟨c,h1,h2⟩:=w;exact ih h2 (aAB ok h1).2
 exact go (h.ok p L m).1 hf
theorem Wy.grow{us:List Ed}{fd:Wd'}(ok:Oks n us)(hf:Inn n f)(con:∀p,Inn n p->at0 (gS n us) p=at0 (gS n us) f)(h:Wy us f fd):fd.length+1<=(pA fd 0 us).length\/fd.length=n:=by
 obtain⟨a,b⟩:=AR us fd 0;by_cases e:(pA fd 0 us).length=fd.length
 .right
  have cl:=b e;have hl:(kys fd).length=fd.length:=by unfold kys;rw[A2]
  rw[<- hl];refine(vZ h.nd (h.inn ok hf)).mpr fun p hp=>?_;exact(xU (S:=(·∈kys fd)) ok cl hp hf (con p hp)).mpr (List.mem_map.mpr ⟨_,h.has,rfl⟩)
 .left;omega
noncomputable def tM(us:List Ed):Nat->Wd'->Wd'
 |0,fd=>fd
 |m+1,fd=>tM us m (pA fd 0 us)
theorem Wy.turns{us:List Ed}{f:Int}:∀{m:Nat}{fd:Wd'},Wy us f fd->Wy us f (tM us m fd)
 |0,_=>fun h=>h
 |m+1,fd=>fun h=>Wy.turns (m:=m) (h.pass rfl)
theorem Wy.few{us:List Ed}{fd:Wd'}(ok:Oks n us)(hf:Inn n f)(h:Wy us f fd):fd.length<=n:=by
 have:=sY h.nd (h.inn ok hf);unfold kys at this
 rwa [A2]at this
theorem EV{n:Nat}{us:List Ed}{f:Int}(ok:Oks n us)(hf:Inn n f)(con:∀p,Inn n p->at0 (gS n us) p=at0 (gS n us) f):∀(m:Nat)(fd:Wd'),Wy us f fd->n<=fd.length+m->(tM us m fd).length=n
 |0=>fun fd h hm=>by
  have:=h.few ok hf;show fd.length=n;omega
 |m+1=>fun fd h hm=>by
  have h2:=h.pass (k:=0) (es:=us) rfl;refine EV ok hf con m _ h2 ?_;rcases h.grow ok hf con with g|g
  .omega
  .have:=(AR us fd 0).1;omega
theorem XR{us:List Ed}(ok:Oks n us)(hf:Inn n f)(ln:us.length+1=n)(con:∀p,Inn n p->at0 (gS n us) p=at0 (gS n us) f):∀p,Inn n p->∃L,look (tM us us.length [(f,[])]) p=some L/\Walk us f L p/\L.Nodup:=fun p hp=>by
 have w:=(Wy.start (us:=us) (f:=f)).turns (m:=us.length);have l:=EV ok hf con us.length [(f,[])] Wy.start (by show n<=1+us.length;omega);have hl:(kys (tM us us.length [(f,[])])).length=n:=by unfold kys;rw[A2];exact l
 obtain⟨L,hL⟩:=aCh ((vZ w.nd (w.inn ok hf)).mp hl p hp);obtain⟨a,b,_⟩:=w.ok p L (rY hL);exact⟨L,hL,a,b⟩
noncomputable abbrev wD(L:List Int):PyData:=.tuple (L.map .int)
noncomputable def kvW(fd:Wd'):List (Key×CD):=fd.map fun e=>((.inl e.1:Key),.d (wD e.2))
theorem aFQ(fd:Wd')(x:Int):lkC (kvW fd) (.inl x:Key)=(look fd x).map fun L=>.d (wD L):=by
 unfold lkC kvW look;rw[Option.map_map]
 induction fd with
 |nil=>rfl
 |cons e fd ih=>
  rw[B7,List.find?_cons,List.find?_cons];by_cases h:e.1=x
  .rw[B1 h,show decide ((Sum.inl e.1:Key)=Sum.inl x)=true from B1 (by rw[h])];rfl
  .have h1:¬((Sum.inl e.1:Key)=Sum.inl x):=fun q=>h (Z9 q);rw[C1 h,C1 h1];exact ih
theorem aIF{fd:Wd'}{x:Int}(h:look fd x=none):putD (kvW fd) (.inl x:Key) (.d (wD L))=kvW (fd++[(x,L)]):=by
 unfold putD
 have:((kvW fd).any fun kv=>decide (kv.1=(Sum.inl x:Key)))=false:=by
  rw[List.any_eq_false];intro kv hkv;obtain⟨y,hy,rfl⟩:=List.mem_map.mp hkv;rw[D8];exact fun e=>look_none.mp h (Z9 e▸List.mem_map.mpr ⟨y,hy,rfl⟩)
 rw[this,A7 (by decide)];unfold kvW;rw[D3,E8]
noncomputable abbrev StW(M:Sto)(fd:Wd'):Sto:=M++[Cell.dk (kvW fd)]
theorem LZ{fd:Wd'}:(StW M fd)[M.length]?=some (.dk (kvW fd)):=by
 unfold StW;rw[B2 (A6 _),D4];rfl
theorem atW{fd:Wd'}(x:Int):atD (StW M fd) (.c M.length) (.inl (.inl x))=some ((look fd x).map fun L=>.d (wD L)):=by
 simp only[atD,LZ,aFQ]
theorem aIe{fd:Wd'}{x:Int}(h:look fd x=none)(hl:fd.length<1000):yH (StW M fd) (.c M.length) (.inl (.inl x)) (.d (wD L))=some (StW M (fd++[(x,L)])):=by
 have l1:(kvW fd).length<sizeLine:=by unfold kvW;rw[A2,E4];omega
 simp only[yH,LZ,if_pos l1,aIF h];unfold StW;rw[D7 _ _ (A6 _),D4];rfl
structure IsT(x:PyData)(us:List Ed):Prop where
 len:∃ds,aQ x=some ds/\ds.length=us.length
 at_:∀(k:Nat)(e:Ed),us[k]?=some e->∃d,∀M,ixF (.d x) (I (k:Nat)) M=some (.d (.tuple [.int e.1,.int e.2,d]),M)
theorem aGM(vs:List Tie):IsT (.tuple (vs.map rD)) (vs.map Tie.key):=by
 refine⟨⟨_,rfl,by rw[A2,A2]⟩,fun k e h=>?_⟩;rw[C8]at h;obtain⟨t,ht,rfl⟩:=Option.map_eq_some_iff.mp h;refine⟨.tuple [.int t.a,.int t.b],fun M=>?_⟩;have:atI (vs.map rD) (k:Int)=some (rD t):=oR (by rw[C8,ht];rfl);show(atI (vs.map rD) (k:Int)).bind _=_;rw[this];rfl
noncomputable abbrev GY(x f:CD)(c:Nat)(turn k i j:Option CD):Ga:=[some x,some f,some (.c c),turn,k,i,j]
theorem sl2{a b:PyData}:slF (.d (.tuple [a,b,d])) none (some 2) M=some (.d (.tuple [a,b]),M):=rfl
theorem add_one{k:Int}(hl:L.length<900):cC (.d (wD L)) (.d (.tuple [.int k])) M=some (.d (wD (L++[k])),M):=by
 have:=uM (xs:=L.map .int) (ys:=[.int k]) (M:=M) (by rw[A2,C6];omega);rw[this];unfold wD;rw[D3,E8]
theorem RR{f:CD}{M:Sto}{fd:Wd'}{us:List Ed}{k:Nat}{e:Ed}{turn g5 g6:Option CD}(hT:IsT x us)(he:us[k]?=some e)(hl:fd.length<1000)(hL:∀p L,look fd p=some L->L.length<900):
 eS (GY (.d x) f M.length turn (some (I (k:Nat))) g5 g6) (StW M fd)=some (.nx (GY (.d x) f M.length turn (some (I (k:Nat))) (some (I e.1)) (some (I e.2))),StW M (pH fd (k:Nat) e)):=by
 obtain⟨d,ix⟩:=hT.at_ k e he;generalize (k:Int)=J at ix ⊢;have a1:=atW (M:=M) (fd:=fd) e.1;have a2:=atW (M:=M) (fd:=fd) e.2;have s1:(1:Nat)<=sizeLine:=by decide
 have k1:keyOf (I e.1)=some (.inl e.1):=rfl;have k2:keyOf (I e.2)=some (.inl e.2):=rfl;unfold pH;cases h1:look fd e.1 with
 |none=>
  rw[h1]at a1;cases h2:look fd e.2 with
  |none=>
   rw[h2]at a2;simp![eS,ix,fSl,dW,bV,asI,sl2,pN,gA,k1,k2,a1,a2,Option.map_none,Option.isSome_none]
  |some L=>
   rw[h2]at a2;have sw:=aIe (M:=M) (x:=e.1) (L:=L++[J]) h1 hl;have ad:=fun M=>add_one (L:=L) (k:=J) (M:=M) (hL _ _ h2);simp![eS,ix,fSl,dW,bV,asI,sl2,pN,gA,k1,k2,a1,a2,Option.map_none,Option.isSome_none,Option.isSome_some,kN,lC,s1,ad,sw]
 |some L=>
  rw[h1]at a1;cases h2:look fd e.2 with
  |none=>
   rw[h2]at a2;have sw:=aIe (M:=M) (x:=e.2) (L:=L++[J]) h2 hl;have ad:=fun M=>add_one (L:=L) (k:=J) (M:=M) (hL _ _ h1);simp![eS,ix,fSl,dW,bV,asI,sl2,pN,gA,k1,k2,a1,a2,Option.map_none,Option.isSome_none,Option.isSome_some,kN,lC,s1,ad,sw]
  |some K=>
   rw[h2]at a2;simp![eS,ix,fSl,dW,bV,asI,sl2,pN,gA,k1,k2,a1,a2,Option.map_some,Option.isSome_some]
theorem Wy.short{n:Nat}{us:List Ed}{fd:Wd'}(h:Wy us f fd)(ln:us.length<=39):∀p L,look fd p=some L->L.length<900:=fun p L e=>by
 obtain⟨w,nd,_⟩:=h.ok p L (rY e);have:=sY nd (QB w);omega
theorem EK{n:Nat}{x:PyData}{f:CD}{M:Sto}{us:List Ed}{ff:Int}{turn:Option CD}(hT:IsT x us)(ok:Oks n us)(hf:Inn n ff)(n40:n<=40)(ln:us.length<=39):∀(es:List Ed)(k:Nat)(fd:Wd')(g4 g5 g6:Option CD),us.drop k=es->Wy us ff fd->
 ∃g4' g5' g6',iI (hName 4) eS (fF (k:Nat) es.length) (GY (.d x) f M.length turn g4 g5 g6) (StW M fd)=some (.nx (GY (.d x) f M.length turn g4' g5' g6'),StW M (pA fd k es))
 |[]=>fun k fd g4 g5 g6 _ _=>⟨g4,g5,g6,rfl⟩
 |e::es=>fun k fd g4 g5 g6 hd h=>by
  have he:us[k]?=some e:=by
   have:=F6 (fun l=>l[0]?) hd;simpa[List.getElem?_drop]using this
  have hd':us.drop (k+1)=es:=by rw[<- List.drop_drop,hd];rfl
  have fl:=h.few ok hf;have t:=RR (f:=f) (M:=M) (turn:=turn) (g5:=g5) (g6:=g6) hT he (by omega) (h.short (n:=n) ln);obtain⟨a4,a5,a6,l⟩:=EK (f:=f) (M:=M) (turn:=turn) hT ok hf n40 ln es (k+1) (pH fd (k:Nat) e) (some (I (k:Nat))) (some (I e.1)) (some (I e.2)) hd' (h.step he);refine⟨a4,a5,a6,?_⟩;rw[D0,jF,eQ (show hName 4 (I (k:Nat)) (GY (.d x) f M.length turn g4 g5 g6) (StW M fd)=some (GY (.d x) f M.length turn (some (I (k:Nat))) g5 g6,StW M fd)from rfl) t];exact l
theorem aIZ{x:CD}(hl:eF [x] M=some (I J,M))(sm:cG J=true):cZ (aB (aK eF (aB (aD 0) aG)) aG) (some x::γ) M=some (fF 0 J.toNat,M):=by
 simp![cZ,hl,sm]
theorem YF{us:List Ed}(hT:IsT x us)(ln:us.length<=39):cZ (aB (aK eF (aB (aD 0) aG)) aG) (some (.d x)::γ) M=some (fF 0 us.length,M):=by
 obtain⟨ds,h1,h2⟩:=hT.len;have:=aIZ (γ:=γ) (M:=M) (dI h1) (kL (by omega) (by omega));rw[I0,h2]at this;exact this
theorem AQ{n:Nat}{x:PyData}{f:CD}{M:Sto}{us:List Ed}{ff:Int}(hT:IsT x us)(ok:Oks n us)(hf:Inn n ff)(n40:n<=40)(ln:us.length<=39):∀(m:Nat)(lo:Int)(fd:Wd')(g3 g4 g5 g6:Option CD),Wy us ff fd->
 ∃g3' g4' g5' g6',iI (hName 3) iW (fF lo m) (GY (.d x) f M.length g3 g4 g5 g6) (StW M fd)=some (.nx (GY (.d x) f M.length g3' g4' g5' g6'),StW M (tM us m fd))
 |0=>fun lo fd g3 g4 g5 g6 _=>⟨g3,g4,g5,g6,rfl⟩
 |m+1=>fun lo fd g3 g4 g5 g6 h=>by
  obtain⟨a4,a5,a6,l⟩:=EK (f:=f) (M:=M) (turn:=some (I lo)) hT ok hf n40 ln us 0 fd g4 g5 g6 rfl h;have t:iW (GY (.d x) f M.length (some (I lo)) g4 g5 g6) (StW M fd)=some (.nx (GY (.d x) f M.length (some (I lo)) a4 a5 a6),StW M (pA fd 0 us)):=nH (YF hT ln) l;obtain⟨b3,b4,b5,b6,l2⟩:=AQ (f:=f) (M:=M) hT ok hf n40 ln m (lo+1) (pA fd 0 us) (some (I lo)) a4 a5 a6 (h.pass rfl);refine⟨b3,b4,b5,b6,?_⟩;rw[jF,eQ (show hName 3 (I lo) (GY (.d x) f M.length g3 g4 g5 g6) (StW M fd)=some (GY (.d x) f M.length (some (I lo)) g4 g5 g6,StW M fd)from rfl) t];exact l2
theorem aEi{us:List Ed}(M:Sto)(hT:IsT x us)(ok:Oks n us)(hf:Inn n f)(n40:n<=40)(ln:us.length+1=n):eR [.d x,I f] M=some (.c M.length,StW M (tM us us.length [(f,[])])):=by
 have s0:(0:Nat)<=sizeLine:=E5 _
 have c0:pS [((aD 1),(bL aG))] [some (.d x),some (I f),none,none,none,none,none] M=some (.c M.length,StW M [(f,[])]):=by
  unfold pS;rw[show AU [((aD 1),(bL aG))] [some (.d x),some (I f),none,none,none,none,none] (M++[.dk []])=some ([(I f,.d (.tuple []))],M++[.dk []])from rfl,A0];dsimp only;rw[B2 (A6 _),D4];show(some [((.inl f:Key),CD.d (.tuple []))]).bind _=_;rw[A0,A3 (by simp),D7 _ _ (A6 _),D4];rfl
 obtain⟨a3,a4,a5,a6,l⟩:=AQ (f:=I f) (M:=M) hT ok hf n40 (by omega) us.length 0 [(f,[])] none none none none Wy.start;have sf:kW (cZ (aB (aK eF (aB (aD 0) aG)) aG)) (hName 3) iW (GY (.d x) (I f) M.length none none none none) (StW M [(f,[])])=_:=nH (YF hT (by omega)) l;refine xH rfl ?_;unfold qF;show aO _ _ [some (.d x),some (I f),none,none,none,none,none] M=_;rw[bF (tG c0)];show aO _ _ (GY (.d x) (I f) M.length none none none none) (StW M [(f,[])])=_;rw[bF sf];rfl
structure Tr(n:Nat)(x:PyData)(us:List Ed):Prop where
 it:∃ds,aQ x=some ds/\ds.length+1=n/\ds.mapM (bI n)=some us
 n40:n<=40
 con:∀p q,Inn n p->Inn n q->at0 (gS n us) p=at0 (gS n us) q
theorem Tr.ok{us:List Ed}(h:Tr n x us):Oks n us:=let⟨_,_,_,c⟩:=h.it;nS c
theorem Tr.ln{us:List Ed}(h:Tr n x us):us.length+1=n:=let⟨_,_,b,c⟩:=h.it;by rw[qP c];exact b
theorem Tr.of(h0:0<n)(n40:n<=40)(h:eN n x=true):∃us,Tr n x us:=by
 unfold eN at h;cases hi:aQ x with
 |none=>rw[hi]at h;cases h
 |some ds=>
  rw[hi]at h;dsimp only at h;rw[B3,D8]at h;obtain⟨hn,h⟩:=h;cases hm:ds.mapM (bI n)with
  |none=>rw[hm]at h;cases h
  |some us=>
   rw[hm]at h;dsimp only at h;rw[B3]at h;have c:=(wO h0 (by rw[qP hm];exact hn) (nS hm)).mp h.2;exact⟨us,⟨ds,hi,hn,hm⟩,n40,fun p q hp hq=>(c p hp).trans (c q hq).symm⟩
noncomputable def eT(x:PyData):Bool:=match aQ x with
 |some ds=>decide (ds.length+1<=40)&&eN (ds.length+1) x
 |none=>false
theorem tree_big(h:decide (40<J)=true):dX [I J,.d x] M=some (B false,M):=by
 simp![dX,hW,h]
noncomputable abbrev xT:Exc:=⟨"NoTree",[]⟩
noncomputable abbrev xP:Exc:=⟨"NoPlace",[]⟩
theorem wZ{b:Bool}{M:Sto}(r:fT x=true)(ln:∀M,eF [.d x] M=some (I J,M))(h:dX [I (J+1),.d x] M=some (B b,M')):cE [.d x] M=some (if b=true then .v (.d .none)else .x xT,M'):=by
 have a1:cC (I J) (I 1) M=some (I (J+1),M):=rfl;cases b with
 |true=>simp![cE,eZ,BF,r,ln,a1,h]
 |false=>simp![cE,eZ,BF,r,ln,a1,h]
theorem nP(x:PyData)(M:Sto):∃L,cE [.d x] M=some (if eT x=true then .v (.d .none)else .x xT,M++L):=by
 cases hi:aQ x with
 |none=>
  have e:eT x=false:=by unfold eT;rw[hi]
  have r:fT x=false:=by rw[fE,hi];rfl
  refine⟨[],?_⟩;rw[e,C4];simp![cE,eZ,BF,r]
 |some ds=>
  have r:fT x=true:=by rw[fE,hi];rfl
  by_cases h:ds.length+1<=40
  .have e:eT x=eN (ds.length+1) x:=by unfold eT;rw[hi];dsimp only;rw[B1 h,E7]
   obtain⟨L,t⟩:=RT (Nat.succ_pos _) h x M;refine⟨L,?_⟩;rw[e];exact wZ r (fun M=>dI hi) t
  .have e:eT x=false:=by unfold eT;rw[hi];dsimp only;rw[C1 h,J9]
   refine⟨[],?_⟩;rw[e,C4];exact wZ (b:=false) r (fun M=>dI hi) (tree_big (B1 (by omega)))
noncomputable def unB(n:Int)(y z:PyData):Bool:=plB n y&&(plB n z&&(match isInt y,isInt z with|some i,some j=>!(i==j)|_,_=>false))
theorem BN{n:Int}(h:plB n y=true):∃i,y=.int i/\0<=i/\i<n:=by
 unfold plB at h;split at h
 .rename_i i;rw[B3,D8,D8]at h;exact⟨i,rfl,h⟩
 .cases h
theorem aIG(n:Int)(y z:PyData)(M:Sto):bJ [I n,.d y,.d z] M=some (B (unB n y z),M):=by
 unfold unB;cases h1:plB n y with
 |false=>rw[J9];exact rL n y z M (.inl h1)
 |true=>
  cases h2:plB n z with
  |false=>rw[J9,F7];exact rL n y z M (.inr h2)
  |true=>
   obtain⟨i,rfl,_⟩:=BN h1;obtain⟨j,rfl,_⟩:=BN h2;rw[AM,h1,h2];rfl
theorem DP(n:Int)(y z:PyData)(M:Sto):cL [I n,.d y,.d z] M=some (if unB n y z=true then .v (.d .none)else .x xP,M):=by
 cases h:unB n y z with
 |true=>simp![cL,dP,aIG,h]
 |false=>simp![cL,dP,aIG,h]
noncomputable abbrev sP(t:Int×Int×Int):PyData:=.tuple [.int t.1,.int t.2.1,.int t.2.2]
theorem zC{us:List Ed}(h:Tr n x us)(hp:Inn n p)(ha:fa γ M=some ([.d x,I p],M)):
 ∃ss L,fU (bX (aK eP fa)) γ M=some (ss.map fun s=>.d (sP s),M++L)/\gP n us p ss:=by
 obtain⟨ds,hi,hn,hm⟩:=h.it;have ln:=h.ln;have n40:=h.n40;obtain⟨fs,ss,L,c,st,hc,hs,d⟩:=OD (M:=M) hi hn h.n40 hm h.ok hp (by omega);refine⟨ss,L.set (c-M.length) .dead,?_,gP.of h.ok hp h.ln d fun q hq=>h.con q p hq hp⟩
 have f:bX (aK eP fa) γ M=some (.d (.list (ss.map sP)),M++L.set (c-M.length) .dead):=by
  unfold bX aK;rw[ha,A0];dsimp only;rw[st,A0];dsimp only;rw[hs];unfold sC;dsimp only;rw[show ss.map sD=(ss.map sP).map .d by rw[O9];rfl,kS,A0,D7 _ _ hc]
 unfold fU;rw[f,A0];show(some (ss.map sP)).bind _=_;rw[A0,O9];rfl
noncomputable def kvC(ss:List (Int×Int×Int)):List (Key×CD):=ss.map fun s=>((.inl s.2.1:Key),.d (.tuple [.int s.1,.int s.2.2]))
theorem aIX{ss:List (Int×Int×Int)}{s:Int×Int×Int}(h:s.2.1∉ss.map (·.2.1)):putD (kvC ss) (.inl s.2.1:Key) (.d (.tuple [.int s.1,.int s.2.2]))=kvC (ss++[s]):=by
 unfold putD
 have:((kvC ss).any fun kv=>decide (kv.1=(Sum.inl s.2.1:Key)))=false:=by
  rw[List.any_eq_false];intro kv hkv;obtain⟨y,hy,rfl⟩:=List.mem_map.mp hkv;rw[D8];exact fun e=>h (Z9 e▸List.mem_map.mpr ⟨y,hy,rfl⟩)
 rw[this,A7 (by decide)];unfold kvC;rw[D3,E8]
theorem aJw{us:List Ed}{ss:List (Int×Int×Int)}(R:gP n us r ss){x:Int}(m:(h,x,a)∈ss):lkC (kvC ss) (.inl x:Key)=some (.d (.tuple [.int h,.int a])):=by
 unfold lkC;cases e:(kvC ss).find? fun kv=>decide (kv.1=(Sum.inl x:Key))with
 |none=>
  rw[List.find?_eq_none]at e;exact absurd (B1 rfl) (e ((.inl x:Key),.d (.tuple [.int h,.int a])) (List.mem_map.mpr ⟨(h,x,a),m,rfl⟩))
 |some kv=>
  have h1:=List.mem_of_find?_eq_some e;have h2:kv.1=(Sum.inl x:Key):=by simpa using List.find?_some e
  obtain⟨⟨h',x',a'⟩,m',rfl⟩:=List.mem_map.mp h1;have h2:x'=x:=Z9 h2;subst h2;obtain⟨rfl,rfl⟩:=R.one m m';rfl
noncomputable abbrev aDd:EF:=(bL (aB (aD 0) (aB (aD 2) aG)))
theorem DJ{N:Sto}:∀(xs ss:List (Int×Int×Int))(g0 g1 g2:Option CD),((ss++xs).map (·.2.1)).Nodup->ss.length+xs.length<1000->
 dcF N.length (lB 3 (bT (hName 0) (bT (hName 1) (bT (hName 2) lR)))) jH (gA (aD 1)) aDd (xs.map fun s=>.d (sP s)) [g0,g1,g2] (N++[.dk (kvC ss)])=some (N++[.dk (kvC (ss++xs))])
 |[]=>fun ss g0 g1 g2 _ _=>by rw[C4];rfl
 |s::xs=>fun ss g0 g1 g2 nd hl=>by
  have e:ss++s::xs=ss++[s]++xs:=by simp
  have nx:s.2.1∉ss.map (·.2.1):=fun h=>by
   rw[D3,U7]at nd;exact nd.2.2 _ h _ (B0 ..) rfl
  rw[D0]at hl;rw[e]at nd ⊢;have ih:=DJ (N:=N) xs (ss++[s]) (some (I s.1)) (some (I s.2.1)) (some (I s.2.2)) nd (by rw[B4,C6];omega);have hD:(N++[Cell.dk (kvC ss)])[N.length]?=some (.dk (kvC ss)):=by rw[B2 (A6 _),D4];rfl
  have l1:(kvC ss).length<sizeLine:=by unfold kvC;rw[A2,E4];omega
  have st:yH (N++[.dk (kvC ss)]) (.c N.length) (.inl (.inl s.2.1)) (.d (.tuple [.int s.1,.int s.2.2]))=some (N++[.dk (kvC (ss++[s]))]):=by
   simp only[yH,hD,if_pos l1,aIX nx];rw[D7 _ _ (A6 _),D4];rfl
  have k1:keyOf (I s.2.1)=some (.inl s.2.1):=rfl;have s2:(2:Nat)<=sizeLine:=by decide
  rw[B7];unfold dcF;simp![aDd,jH,gA,k1,s2,st,ih]
noncomputable abbrev GU(x i j:CD)(N:Sto)(place at_:Option CD):Ga:=[some x,some i,some j,some (.c N.length),some (.c (N.length+1)),place,at_]
noncomputable abbrev StU(N:Sto)(ss:List (Int×Int×Int))(L:List Int):Sto:=N++[.dk (kvC ss),cI L]
section
variable{n:Nat}{us:List Ed}{r:Int}{ss:List (Int×Int×Int)}{N:Sto}
theorem aIO:(StU N ss L)[N.length]?=some (.dk (kvC ss)):=by
 unfold StU;rw[B2 (A6 _),D4];rfl
theorem WE:Li (StU N ss L) (N.length+1) L:=by
 unfold Li StU;rw[B2 (J6 ..),F5];rfl
theorem aBT{K:List Int}:(StU N ss L).set (N.length+1) (cI K)=StU N ss K:=by
 unfold StU;rw[D7 _ _ (J6 ..),F5];rfl
noncomputable abbrev uB:SF:=(aO (aZ (lC (aD 3) (gA (aD 5))) (lB 2 (bT (hName 5) (bT (hName 6) lR))))
 (lL (bU "list" bZ (aD 4) (aB (aD 6) aG))))
theorem aCz{x i j:CD}(R:gP n us r ss)(m:(h,p,a)∈ss)(hl:L.length<900):uB (GU x i j N (some (I p)) g6) (StU N ss L)=some (.nx (GU x i j N (some (I h)) (some (I a))),StU N ss (L++[a])):=by
 have k1:keyOf (I p)=some (.inl p):=rfl;have a1:atD (StU N ss L) (.c N.length) (.inl (.inl p))=some (some (.d (.tuple [.int h,.int a]))):=by simp only[atD,aIO,aJw R m]
 have pu:=(WE (N:=N) (ss:=ss) (L:=L)).push (z:=a) (by omega);have ty:=(WE (N:=N) (ss:=ss) (L:=L)).ty;rw[aBT]at pu;simp![uB,lC,gA,k1,a1,bU,ty,pu]
theorem GE{x i:CD}(R:gP n us r ss)(n40:n<=40):∀(F m:Nat)(p:Int)(L:List Int)(g6:Option CD),m<F->p∈r::(ss.take m).map (·.2.1)->L.length+m<500->
 ∃U g5' g6',eY (gB (fOp (eqX true) (aD 5) (aD 2))) uB F (GU x i (I r) N (some (I p)) g6) (StU N ss L)=some (.nx (GU x i (I r) N g5' g6'),StU N ss (L++U))/\Walk us p U r/\U.Nodup/\∀k∈U,k∈(ss.take m).map (·.2.2)
 |0=>fun m p L g6 h _ _=>by omega
 |F+1=>fun m p L g6 hF hp hl=>by
  unfold eY;by_cases e:p=r
  .have t:gB (fOp (eqX true) (aD 5) (aD 2)) (GU x i (I r) N (some (I p)) g6) (StU N ss L)=some (false,StU N ss L):=by
    have:(!(p==r))=false:=by rw[beq_iff_eq.mpr e];rfl
    simp![nM,this]
   refine⟨[],some (I p),g6,?_,e,A0f,fun k hk=>by cases hk⟩;rw[t,A0,C4];rfl
  .have t:gB (fOp (eqX true) (aD 5) (aD 2)) (GU x i (I r) N (some (I p)) g6) (StU N ss L)=some (true,StU N ss L):=by
    have:(!(p==r))=true:=by rw[beq_eq_false_iff_ne.mpr e];rfl
    simp![nM,this]
   have hp:=(List.mem_cons.mp hp).resolve_left e;obtain⟨⟨h,p',a⟩,m1,e1⟩:=List.mem_map.mp hp;have e1:p'=p:=e1;subst e1;obtain⟨q,hq⟩:=O8 m1;have lq:=(List.getElem?_eq_some_iff.mp hq).1;rw[O6]at lq;rw[Y6 (by omega)]at hq;have mm:=L7 hq;have tn:=aCz (N:=N) (x:=x) (i:=i) (j:=I r) (g6:=g6) (L:=L) R mm (by omega);obtain⟨U,g5',g6',lp,w,nd,hk⟩:=GE (x:=x) (i:=i) R n40 F q h (L++[a]) (some (I a)) (by omega) (R.od q h p' a hq) (by rw[B4,C6];omega);refine⟨a::U,g5',g6',?_,⟨h,BU (R.li _ _ _ mm),w⟩,List.nodup_cons.mpr ⟨fun z=>?_,nd⟩,fun k hk'=>?_⟩
   .rw[t,A0];dsimp only;rw[A3 rfl,tn,A0];dsimp only;rw[lp,C2];rfl
   .have z:=hk a z;obtain⟨y,hy,ey⟩:=List.mem_map.mp z;obtain⟨w',hw⟩:=O8 hy;have lw:=(List.getElem?_eq_some_iff.mp hw).1;rw[O6]at lw;rw[Y6 (by omega)]at hw
    have:=(Y2 (h₀:=by rw[A2];exact(List.getElem?_eq_some_iff.mp hw).1) (h₁:=by rw[A2];exact(List.getElem?_eq_some_iff.mp hq).1) R.ats).mp (by
     rw[S2,S2,(List.getElem?_eq_some_iff.mp hw).2,(List.getElem?_eq_some_iff.mp hq).2];exact ey)
    omega
   .have tk:∀y,y∈ss.take q->y∈ss.take m:=fun y hy=>by
     rw[show q=min q m by omega,<- List.take_take]at hy;exact List.mem_of_mem_take hy
    rcases List.mem_cons.mp hk' with z|z
    .rw[z];exact List.mem_map.mpr ⟨_,m1,rfl⟩
    .obtain⟨y,hy,ey⟩:=List.mem_map.mp (hk k z);exact List.mem_map.mpr ⟨y,tk y hy,ey⟩
end
noncomputable abbrev aHZ:SF:=(aO (aZ kF (hName 3))
 (aO (aZ (kK aG) (hName 4))
 (aO (aZ (aD 1) (hName 5))
 (aO oD
 (bK (aK dN (aB (aD 4) aG)))))))
theorem aAs{us:List Ed}(h:Tr n x us)(hi:Inn n i)(hj:Inn n j):∃U L,aHZ [some (.d x),some (I i),some (I j),none,none,none,none] M=some (.rt (.d (wD U)),M++L)/\Walk us i U j/\U.Nodup:=by
 obtain⟨ss,L,fr,R⟩:=zC (γ:=[some (.d x),some (I i),some (I j),none,none,none,none]) (M:=M) (fa:=aB (aD 0) (aB (aD 2) aG)) h hj rfl;have n40:=h.n40;have sl:=R.len;have ln:=h.ln;generalize hN:M++L=N at fr;have nd:=(List.nodup_cons.mp R.nd).2;have cl:=DJ (N:=N) ss [] none none none (by rw[List.nil_append];exact nd) (by rw[Y8];omega)
 have c0:kF [some (.d x),some (I i),some (I j),none,none,none,none] M=some (.c N.length,N++[.dk (kvC ss)]):=by
  unfold kF fDc;rw[fr,A0];dsimp only;rw[show CC [none,none,none] [some (.d x),some (I i),some (I j),none,none,none,none]=[none,none,none]from rfl];show(dcF N.length _ _ _ _ _ [none,none,none] (N++[.dk (kvC [])])).bind _=_;rw[cl,A0];rfl
 have s0:(0:Nat)<=sizeLine:=E5 _
 have c1:kK aG [some (.d x),some (I i),some (I j),some (.c N.length),none,none,none] (N++[.dk (kvC ss)])=some (.c (N.length+1),StU N ss []):=by
  show some (CD.c (N++[Cell.dk (kvC ss)]).length,N++[Cell.dk (kvC ss)]++[Cell.lst []])=_;rw[B4,C2];rfl
 have hp:i∈j::(ss.take ss.length).map (·.2.1):=by rw[List.take_length];exact(R.all i).mp hi
 obtain⟨U,g5,g6,lp,w,ud,_⟩:=GE (N:=N) (x:=.d x) (i:=I i) R n40 (ss.length+1) ss.length i [] none (J5 _) hp (by rw[Y8];omega);have wl:oD (GU (.d x) (I i) (I j) N (some (I i)) none) (StU N ss [])=some (.nx (GU (.d x) (I i) (I j) N g5 g6),StU N ss ([]++U)):=uL lp;rw[List.nil_append]at wl
 have tu:dN [.c (N.length+1)] (StU N ss U)=some (.d (wD U),StU N ss U):=by
  have:=WE (N:=N) (ss:=ss) (L:=U);unfold Li cI at this
  have ad:mW (U.map fun i=>I i)=some (U.map .int):=by
   have:=kS (U.map .int);rw[O9]at this;exact this
  simp only[dN,this,ad,Option.bind_some]
 refine⟨U,L++[.dk (kvC ss),cI U],?_,w,ud⟩;unfold aHZ;rw[bF (tG c0)];show aO _ _ [some (.d x),some (I i),some (I j),some (.c N.length),none,none,none] _=_;rw[bF (tG c1)];show aO _ _ [some (.d x),some (I i),some (I j),some (.c N.length),some (.c (N.length+1)),none,none] _=_;rw[bF (tG (show aD 1 [some (.d x),some (I i),some (I j),some (.c N.length),some (.c (N.length+1)),none,none] (StU N ss [])=some (I i,StU N ss [])from rfl))];show aO _ _ (GU (.d x) (I i) (I j) N (some (I i)) none) _=_;rw[bF wl,<- C2,hN];simp![tu]
theorem vB{h:FX}{xs:List CD}{v:CD}(ha:fa γ M=some (xs,M))(hh:h xs M=some (.v v,M')):jW (pG h (liA fa)) γ M=some (.o (.nx γ),M'):=by
 unfold jW pG QG liA;rw[ha,A0,A0];dsimp only;rw[hh,A0]
theorem GP{h:FX}{xs:List CD}{e:Exc}(ha:fa γ M=some (xs,M))(hh:h xs M=some (.x e,M')):jW (pG h (liA fa)) γ M=some (.xc γ e,M'):=by
 unfold jW pG QG liA;rw[ha,A0,A0];dsimp only;rw[hh,A0]
theorem rO{f g:SFX}(h:f γ M=some (.o (.nx γ'),M')):jE f g γ M=g γ' M':=by
 unfold jE;rw[h,A0]
theorem yU{f g:SFX}{e:Exc}(h:f γ M=some (.xc γ' e,M')):jE f g γ M=some (.xc γ' e,M'):=by
 unfold jE;rw[h,A0]
theorem VM{b:SFX}{xs:List CD}{x:CD}(h:xs.length=ps)(hb:b (xs.map some++List.replicate (N-xs.length) none) M=some (.o (.rt x),M')):fnX ps N b xs M=some (.v x,M'):=by
 unfold fnX;rw[A3 h,hb,A0]
theorem HJ{b:SFX}{xs:List CD}{e:Exc}(h:xs.length=ps)(hb:b (xs.map some++List.replicate (N-xs.length) none) M=some (.xc γ e,M')):fnX ps N b xs M=some (.x e,M'):=by
 unfold fnX;rw[A3 h,hb,A0]
theorem YN{f:SF}{x:CD}(h:f γ M=some (.rt x,M')):liS f γ M=some (.o (.rt x),M'):=by
 unfold liS;rw[h,A0]
theorem IZ{M:Sto}(ln:∀M,eF [.d x] M=some (I J,M)):aB (fOp cC (aK eF (aB (aD 0) aG)) (fC (.int 1))) (aB (aD 1) (aB (aD 2) aG)) [some (.d x),some (.d y),some (.d z),none,none,none,none] M=some ([I (J+1),.d y,.d z],M):=by
 have a1:cC (I J) (I 1) M=some (I (J+1),M):=rfl;simp![ln,a1]
theorem aCg(h:eT x=false):∃L,cV [.d x,.d y,.d z] M=some (.x xT,M++L):=by
 obtain⟨L,r⟩:=nP x M;rw[h,A7 (by decide)]at r;refine⟨L,HJ (γ:=[some (.d x),some (.d y),some (.d z),none,none,none,none]) rfl ?_⟩;unfold lJ;show jE _ _ [some (.d x),some (.d y),some (.d z),none,none,none,none] M=_;exact yU (GP rfl r)
theorem EW(h:eT x=true):∃(n:Nat)(ds:List PyData)(us:List Ed),aQ x=some ds/\ds.length+1=n/\0<n/\Tr n x us:=by
 unfold eT at h;cases hi:aQ x with
 |none=>rw[hi]at h;cases h
 |some ds=>
  rw[hi]at h;dsimp only at h;rw[B3,D8]at h;obtain⟨us,ht⟩:=Tr.of (Nat.succ_pos _) h.1 h.2;exact⟨_,ds,us,rfl,rfl,Nat.succ_pos _,ht⟩
theorem aBM(h:eT x=true)(hi:aQ x=some ds)(u:unB ((ds.length:Int)+1) y z=false):∃L,cV [.d x,.d y,.d z] M=some (.x xP,M++L):=by
 obtain⟨L,r⟩:=nP x M;rw[h,A3 rfl]at r;have r2:=DP ((ds.length:Int)+1) y z (M++L);rw[u,A7 (by decide)]at r2;refine⟨L,HJ (γ:=[some (.d x),some (.d y),some (.d z),none,none,none,none]) rfl ?_⟩;unfold lJ;show jE _ _ [some (.d x),some (.d y),some (.d z),none,none,none,none] M=_;rw[rO (vB rfl r)];exact yU (GP (IZ fun M=>dI hi) r2)
theorem FD{us:List Ed}(h:eT x=true)(ht:Tr n x us)(hi:Inn n i)(hj:Inn n j)(ne:i≠j):∃U L,cV [.d x,I i,I j] M=some (.v (.d (wD U)),M++L)/\Walk us i U j/\U.Nodup:=by
 obtain⟨ds,hx,hn,hm⟩:=ht.it;obtain⟨L,r⟩:=nP x M;rw[h,A3 rfl]at r
 have u:unB ((ds.length:Int)+1) (.int i) (.int j)=true:=by
  unfold unB
  have p1:plB ((ds.length:Int)+1) (.int i)=true:=by
   show(decide (0<=i)&&decide (i<(ds.length:Int)+1))=true;rw[B1 hi.1,B1 (by omega)];rfl
  have p2:plB ((ds.length:Int)+1) (.int j)=true:=by
   show(decide (0<=j)&&decide (j<(ds.length:Int)+1))=true;rw[B1 hj.1,B1 (by omega)];rfl
  rw[p1,p2,E7,E7];show(!(i==j))=true;rw[beq_eq_false_iff_ne.mpr ne];rfl
 have r2:=DP ((ds.length:Int)+1) (.int i) (.int j) (M++L);rw[u,A3 rfl]at r2;obtain⟨U,L2,w,wk,nd⟩:=aAs (M:=M++L) ht hi hj;refine⟨U,L++L2,VM rfl ?_,wk,nd⟩;unfold lJ;show jE _ _ [some (.d x),some (I i),some (I j),none,none,none,none] M=_;rw[rO (vB rfl r),rO (vB (IZ fun M=>dI hx) r2),<- C2];exact YN w
noncomputable def Beh(us:List Ed)(r k p:Int):Prop:=∃U,Walk us p U r/\U.Nodup/\k∈U
section
variable{n:Nat}{us:List Ed}{r k:Int}{ss:List (Int×Int×Int)}
theorem gP.exU(R:gP n us r ss)(n40:n<=40)(hp:Inn n p):∃U,Walk us p U r/\U.Nodup:=by
 have ln:=R.ln;have sl:=R.len;obtain⟨U,_,_,_,w,nd,_⟩:=GE (N:=[]) (x:=.d .none) (i:=.d .none) R n40 (ss.length+1) ss.length p [] none (J5 _) (by rw[List.take_length];exact(R.all p).mp hp) (by rw[Y8];omega);exact⟨U,w,nd⟩
theorem gP.behs(R:gP n us r ss)(n40:n<=40){t:Int}(m:(h,t,a)∈ss):Beh us r k t↔a=k\/Beh us r k h:=by
 have ht:Inn n t:=(R.all t).mpr (A9 _ (List.mem_map.mpr ⟨_,m,rfl⟩))
 have split:∀U,Walk us t U r->U.Nodup->∃U',U=a::U'/\Walk us h U' r/\U'.Nodup:=fun U w nd=>by
  cases U with
  |nil=>
   have w:t=r:=w;subst w;exact(R.root m).elim
  |cons q U'=>
   obtain⟨g,m2,w2⟩:=R.up w nd;obtain⟨e1,e2⟩:=R.one m m2;subst e1 e2;exact⟨U',rfl,w2,(List.nodup_cons.mp nd).2⟩
 constructor
 .rintro⟨U,w,nd,hk⟩;obtain⟨U',rfl,w2,nd2⟩:=split U w nd;rcases List.mem_cons.mp hk with z|z
  .exact .inl z.symm
  .exact .inr ⟨U',w2,nd2,z⟩
 .intro q;obtain⟨U,w,nd⟩:=R.exU n40 ht;obtain⟨U',rfl,w2,nd2⟩:=split U w nd;refine⟨_,w,nd,?_⟩;rcases q with z|⟨V,v1,v2,v3⟩
  .rw[z];exact B0 ..
  .rw[R.uniq v1 v2 w2 nd2]at v3;exact A9 _ v3
theorem gP.beh0(R:gP n us r ss):¬Beh us r k r:=by
 rintro⟨U,w,nd,hk⟩;have:U=[]:=R.uniq w nd (show Walk us r [] r from rfl) A0f;subst this;cases hk
noncomputable def fG(k:Int)(bs:List Int)(s:Int×Int×Int):List Int:=if s.2.2=k\/s.1∈bs then bs++[s.2.1]else bs
theorem gP.beh(R:gP n us r ss)(n40:n<=40):∀(xs pre:List (Int×Int×Int))(bs:List Int),ss=pre++xs->bs.Nodup->(∀p∈bs,p∈pre.map (·.2.1))->(∀p∈r::pre.map (·.2.1),p∈bs↔Beh us r k p)->
 (xs.foldl (fG k) bs).Nodup/\(∀p,p∈xs.foldl (fG k) bs↔Inn n p/\Beh us r k p)
 |[]=>fun pre bs e nd sub h=>by
  rw[C4]at e;subst e;refine⟨nd,fun p=>⟨fun hp=>?_,fun hp=>?_⟩⟩
  .have m:=A9 r (sub p hp);exact⟨(R.all p).mpr m,(h p m).mp hp⟩
  .exact(h p ((R.all p).mp hp.1)).mpr hp.2
 |(g,t,a)::xs=>fun pre bs e nd sub h=>by
  have m:(g,t,a)∈ss:=by rw[e];exact C0 _ (B0 ..)
  have hq:ss[pre.length]?=some (g,t,a):=by rw[e,B2 (A6 _),D4];rfl
  have tk:ss.take pre.length=pre:=by rw[e,List.take_left]
  have hg:g∈r::pre.map (·.2.1):=by have:=R.od _ _ _ _ hq;rwa [tk]at this
  have nt:t∉r::pre.map (·.2.1):=fun z=>by
   have:=R.nd;rw[e,D3]at this;rcases List.mem_cons.mp z with z|z
   .exact R.root (z▸m)
   .have:=(List.nodup_append.mp (List.nodup_cons.mp this).2).2.2 t z t (B0 ..);exact this rfl
  have key:t∈fG k bs (g,t,a)↔Beh us r k t:=by
   rw[R.behs n40 m,<- h g hg];unfold fG;dsimp only;split
   .rename_i c;exact⟨fun _=>c,fun _=>C0 _ (List.mem_singleton.mpr rfl)⟩
   .rename_i c;exact⟨fun z=>absurd (A9 r (sub t z)) nt,fun z=>absurd z c⟩
  have old:∀p,p≠t->(p∈fG k bs (g,t,a)↔p∈bs):=fun p hp=>by
   unfold fG;dsimp only;split
   .rw[List.mem_append,D2];exact⟨fun z=>z.resolve_right hp,.inl⟩
   .exact Iff.rfl
  rw[U4];refine R.beh n40 xs (pre++[(g,t,a)]) (fG k bs (g,t,a)) (by rw[e,C2];rfl) ?_ (fun p hp=>?_) fun p hp=>?_
  .unfold fG;dsimp only;split
   .rw[U7];exact⟨nd,by simp,fun x hx y hy q=>by rw[D2]at hy;exact nt (A9 _ (by rw[<- hy,<- q];exact sub x hx))⟩
   .exact nd
  .rw[D3];by_cases q:p=t
   .rw[q];exact C0 _ (List.mem_singleton.mpr rfl)
   .exact C9 _ (sub p ((old p q).mp hp))
  .by_cases q:p=t
   .rw[q];exact key
   .rw[old p q];refine h p ?_;rcases List.mem_cons.mp hp with z|z
    .rw[z];exact B0 ..
    .rw[D3]at z;rcases List.mem_append.mp z with z|z
     .exact A9 _ z
     .exact absurd (List.mem_singleton.mp z) q
end
noncomputable abbrev StB(M:Sto)(bs:List Int)(L:Sto):Sto:=M++(Cell.dk (kvs bs)::L)
theorem NS{L:Sto}{bs:List Int}:(StB M bs L)[M.length]?=some (.dk (kvs bs)):=by
 unfold StB;rw[B2 (A6 _),D4];rfl
theorem aCN{L:Sto}{bs bs':List Int}:(StB M bs L).set M.length (.dk (kvs bs'))=StB M bs' L:=by
 unfold StB;rw[D7 _ _ (A6 _),D4];rfl
noncomputable abbrev GZ(x:CD)(k:Int)(c:Nat)(g3 g4 g5:Option CD):Ga:=[some x,some (I k),some (.c c),g3,g4,g5]
theorem VQ{x:CD}{k:Int}{L:Sto}{bs:List Int}{s:Int×Int×Int}(hl:bs.length<500)(nt:s.2.1∉bs):eK (GZ x k M.length (some (I s.1)) (some (I s.2.1)) (some (I s.2.2))) (StB M bs L)=some (.nx (GZ x k M.length (some (I s.1)) (some (I s.2.1)) (some (I s.2.2))),StB M (fG k bs s) L):=by
 have l1:(kvs bs).length<sizeLine:=by unfold kvs;rw[A2,E4];omega
 have a1:atD (StB M bs L) (.c M.length) (.inl (.inl s.1))=some (lkC (kvs bs) (.inl s.1:Key)):=by simp only[atD,NS]
 have k1:keyOf (I s.1)=some (.inl s.1):=rfl;have k2:keyOf (I s.2.1)=some (.inl s.2.1):=rfl;have lk:=XI bs s.1
 have s1:yH (StB M bs L) (.c M.length) (.inl (.inl s.2.1)) (.d (.bool true))=some (StB M (bs++[s.2.1]) L):=by
  simp only[yH,NS,if_pos l1,OA nt,aCN]
 unfold fG;cases q:(s.2.2==k)with
 |true=>
  rw[A3 (.inl (beq_iff_eq.mp q))];simp![eK,gZ,q,kN,gA,k2,s1]
 |false=>
  by_cases hb:s.1∈bs
  .rw[B1 hb]at lk;rw[A3 (.inr hb)];simp![eK,gZ,q,pN,gA,k1,a1,lk,kN,k2,s1]
  .rw[C1 hb]at lk;rw[A7 (fun z=>z.elim (beq_eq_false_iff_ne.mp q) hb)];simp![eK,gZ,q,pN,gA,k1,a1,lk]
theorem JK{x:CD}{k:Int}{M L:Sto}:∀(xs:List (Int×Int×Int))(bs:List Int)(g3 g4 g5:Option CD),bs.length+xs.length<500->(bs++xs.map (·.2.1)).Nodup->
 ∃g3' g4' g5',iI (lB 3 (bT (hName 3) (bT (hName 4) (bT (hName 5) lR)))) eK (xs.map fun s=>.d (sP s)) (GZ x k M.length g3 g4 g5) (StB M bs L)=some (.nx (GZ x k M.length g3' g4' g5'),StB M (xs.foldl (fG k) bs) L)
 |[]=>fun bs g3 g4 g5 _ _=>⟨g3,g4,g5,rfl⟩
 |s::xs=>fun bs g3 g4 g5 hl nd=>by
  rw[D0]at hl;rw[B7]at nd;obtain⟨n1,n2,n3⟩:=List.nodup_append.mp nd;have nt:s.2.1∉bs:=fun z=>n3 _ z _ (B0 ..) rfl;have t:=VQ (x:=x) (k:=k) (M:=M) (L:=L) (s:=s) (by omega) nt;have bl:(fG k bs s).length<=bs.length+1:=by unfold fG;split<;>simp
  have nd':(fG k bs s++xs.map (·.2.1)).Nodup:=by
   unfold fG;split
   .rw[C2];exact nd
   .exact List.nodup_append.mpr ⟨n1,(List.nodup_cons.mp n2).2,fun a ha b hb=>n3 a ha b (A9 _ hb)⟩
  obtain⟨a3,a4,a5,l⟩:=JK (x:=x) (k:=k) (M:=M) (L:=L) xs (fG k bs s) (some (I s.1)) (some (I s.2.1)) (some (I s.2.2)) (by omega) nd';refine⟨a3,a4,a5,?_⟩;rw[B7,U4,eQ (show lB 3 (bT (hName 3) (bT (hName 4) (bT (hName 5) lR))) (.d (sP s)) (GZ x k M.length g3 g4 g5) (StB M bs L)=some (GZ x k M.length (some (I s.1)) (some (I s.2.1)) (some (I s.2.2)),StB M bs L)from rfl) t];exact l
theorem DS:∀fs:List Int,DX ((kvs fs).map (·.1))=some fs
 |[]=>rfl
 |x::fs=>by
  show(DX ((kvs fs).map (·.1))).map (x::·)=_;rw[DS fs];rfl
theorem aFa{us:List Ed}{k:Int}(ht:Tr n x us)(h0:0<n):∃bs L,mU [.d x,I k] M=some (.d (wD (pK bs)),M++L)/\bs.Nodup/\∀p,p∈bs↔Inn n p/\Beh us 0 k p:=by
 have n40:=ht.n40;obtain⟨ss,L,fr,R⟩:=zC (γ:=GZ (.d x) k M.length none none none) (M:=M++[.dk []]) (fa:=aB (aD 0) (aB (fC (.int 0)) aG)) ht ⟨by omega,by omega⟩ rfl;have ln:=R.ln;have sl:=R.len;have nd0:=(List.nodup_cons.mp R.nd).2;obtain⟨a3,a4,a5,lp⟩:=JK (x:=.d x) (k:=k) (M:=M) (L:=L) ss [] none none none (by rw[Y8];omega) (by rw[List.nil_append];exact nd0)
 obtain⟨bn,bm⟩:=R.beh (k:=k) n40 ss [] [] rfl A0f (fun p hp=>by cases hp) (fun p hp=>by
  rcases List.mem_cons.mp hp with z|z
  .subst z;exact⟨(fun z=>by cases z),fun z=>absurd z R.beh0⟩
  .cases z)
 have bf:(ss.foldl (fG k) []).length<=n:=sY bn fun p hp=>((bm p).mp hp).1;have e1:M++[Cell.dk []]++L=StB M [] L:=by rw[C2];rfl
 rw[e1]at fr;have sf:=nH fr lp
 have so:rR [.c M.length] (StB M (ss.foldl (fG k) []) L)=some (.d (.list ((pK (ss.foldl (fG k) [])).map .int)),StB M (ss.foldl (fG k) []) L):=by
  simp only[rR,NS,DS,Option.bind_some,if_pos (show(ss.foldl (fG k) []).length<64 by omega)]
 have tv:dN [.d (.list ((pK (ss.foldl (fG k) [])).map .int))] (StB M (ss.foldl (fG k) []) L)=some (.d (wD (pK (ss.foldl (fG k) []))),StB M (ss.foldl (fG k) []) L):=rfl;refine⟨_,Cell.dk (kvs (ss.foldl (fG k) []))::L,xH rfl ?_,bn,bm⟩;unfold mS;show aO _ _ [some (.d x),some (I k),none,none,none,none] M=_;rw[bF (show aZ HN (hName 2) [some (.d x),some (I k),none,none,none,none] M=some (.nx (GZ (.d x) k M.length none none none),M++[.dk []])from rfl),bF sf];simp![so,tv]
noncomputable abbrev lnD(x:PyData):Int:=(((aQ x).getD []).length:Nat)
theorem aIs(h:eT x=true)(M:Sto):eF [.d x] M=some (I (lnD x),M):=by
 cases hi:aQ x with
 |none=>unfold eT at h;rw[hi]at h;cases h
 |some ds=>
  rw[dI hi];unfold lnD;rw[hi];rfl
theorem ZY(h:eT x=false):∃L,bQ [.d x,.d y] M=some (.x xT,M++L):=by
 obtain⟨L,r⟩:=nP x M;rw[h,A7 (by decide)]at r;refine⟨L,HJ (γ:=[some (.d x),some (.d y)]) rfl ?_⟩;unfold jI;show jE _ _ [some (.d x),some (.d y)] M=_;exact yU (GP rfl r)
noncomputable abbrev plS:SFX:=(LO (fO (gB (aK gE (aB (aK eF (aB (aD 0) aG)) (aB (aD 1) aG))))) (tD "NoPlace") (liS bC))
theorem aIY{M:Sto}(ln:∀M,eF [.d x] M=some (I J,M))(h:plB J y=false):plS [some (.d x),some (.d y)] M=some (.xc [some (.d x),some (.d y)] xP,M):=by
 simp![plS,ln,kT,h]
theorem aFT{M:Sto}(ln:∀M,eF [.d x] M=some (I J,M))(h:plB J y=true):plS [some (.d x),some (.d y)] M=some (.o (.nx [some (.d x),some (.d y)]),M):=by
 simp![plS,ln,kT,h]
theorem XT(h:eT x=true)(p:plB (lnD x) y=false):∃L,bQ [.d x,.d y] M=some (.x xP,M++L):=by
 obtain⟨L,r⟩:=nP x M;rw[h,A3 rfl]at r;refine⟨L,HJ (γ:=[some (.d x),some (.d y)]) rfl ?_⟩;unfold jI;show jE _ _ [some (.d x),some (.d y)] M=_;rw[rO (vB rfl r)];exact yU (aIY (aIs h) p)
theorem yN{us:List Ed}{k:Int}(h:eT x=true)(ht:Tr n x us)(h0:0<n)(p:plB (lnD x) (.int k)=true):∃bs L,bQ [.d x,I k] M=some (.v (.d (wD (pK bs))),M++L)/\bs.Nodup/\∀p,p∈bs↔Inn n p/\Beh us 0 k p:=by
 obtain⟨L,r⟩:=nP x M;rw[h,A3 rfl]at r;obtain⟨bs,L2,e,b1,b2⟩:=aFa (k:=k) (M:=M++L) ht h0;refine⟨bs,L++L2,VM rfl ?_,b1,b2⟩;unfold jI;show jE _ _ [some (.d x),some (I k)] M=_;rw[rO (vB rfl r),rO (aFT (aIs h) p),<- C2];refine YN ?_;simp![e]
noncomputable def cW(x y z:PyData):Int:=if eT x=true then(if unB (lnD x+1) y z=true then 0 else 2)else 1
noncomputable def cS(x y:PyData):Int:=if eT x=true then(if plB (lnD x) y=true then 0 else 2)else 1
noncomputable def Res(c:Int)(R:Rs):Prop:=(c=0/\∃v,R=.v v)\/(c=1/\R=.x xT)\/(c=2/\R=.x xP)
theorem aGs(x y z:PyData)(M:Sto):∃R L,cV [.d x,.d y,.d z] M=some (R,M++L)/\Res (cW x y z) R:=by
 unfold cW;cases h:eT x with
 |false=>
  obtain⟨L,e⟩:=aCg (y:=y) (z:=z) (M:=M) h;exact⟨_,L,e,.inr (.inl ⟨rfl,rfl⟩)⟩
 |true=>
  rw[A3 rfl];obtain⟨n,ds,us,hi,hn,h0,ht⟩:=EW h;have el:lnD x=(ds.length:Nat):=by unfold lnD;rw[hi];rfl
  cases u:unB (lnD x+1) y z with
  |false=>
   rw[el]at u;obtain⟨L,e⟩:=aBM (M:=M) h hi u;exact⟨_,L,e,.inr (.inr ⟨rfl,rfl⟩)⟩
  |true=>
   rw[el]at u;unfold unB at u;rw[B3,B3]at u;obtain⟨i,rfl,i0,i1⟩:=BN u.1;obtain⟨j,rfl,j0,j1⟩:=BN u.2.1
   have ne:i≠j:=fun q=>by
    have u3:(!(i==j))=true:=u.2.2;rw[beq_iff_eq.mpr q]at u3;cases u3
   obtain⟨U,L,e,_,_⟩:=FD (M:=M) h ht ⟨i0,by omega⟩ ⟨j0,by omega⟩ ne;exact⟨_,L,e,.inl ⟨rfl,_,rfl⟩⟩
theorem aBY(x y:PyData)(M:Sto):∃R L,bQ [.d x,.d y] M=some (R,M++L)/\Res (cS x y) R:=by
 unfold cS;cases h:eT x with
 |false=>
  obtain⟨L,e⟩:=ZY (y:=y) (M:=M) h;exact⟨_,L,e,.inr (.inl ⟨rfl,rfl⟩)⟩
 |true=>
  rw[A3 rfl];cases p:plB (lnD x) y with
  |false=>
   obtain⟨L,e⟩:=XT (M:=M) h p;exact⟨_,L,e,.inr (.inr ⟨rfl,rfl⟩)⟩
  |true=>
   obtain⟨n,ds,us,hi,hn,h0,ht⟩:=EW h;obtain⟨k,rfl,_⟩:=BN p;obtain⟨bs,L,e,_⟩:=yN (M:=M) h ht h0 p;exact⟨_,L,e,.inl ⟨rfl,_,rfl⟩⟩
noncomputable abbrev GQ(x y z:PyData)(c:Nat)(w told:Option CD):Ga:=[some (.d x),some (.d y),some (.d z),some (.c c),w,told,none]
noncomputable abbrev aDS:SF:=(TX bW [⟨[("NoPlace",false),("NoTree",true)],(some 6),fB⟩,⟨[("NoPlace",true),("NoTree",false)],(some 6),fA⟩])
theorem WZ{e:Cell}:(M++[e])[M.length]?=some e:=by rw[B2 (A6 _),D4];rfl
theorem aEb{w:Option CD}:FH [⟨[("NoPlace",false),("NoTree",true)],(some 6),fB⟩,⟨[("NoPlace",true),("NoTree",false)],(some 6),fA⟩] (GQ x y z c w told) xT M=some (.nx (GQ x y z c w (some (I 1))),M++[.exc false "NoTree" []]):=by
 have e:=WZ (M:=M) (e:=.exc false "NoTree" []);have l1:List.lookup ("NoTree":Str) [(("NoPlace":Str),false),("NoTree",true)]=some true:=by decide +kernel
 have l2:List.lookup ("NoTree":Str) fH=some true:=by decide +kernel
 have l3:List.lookup ("NoTree":Str) dU=some true:=by decide +kernel
 have l4:List.lookup ("NoTree":Str) kP=some false:=by decide +kernel
 have ii:∀M,lM [.d (.bool true)] M=some (I 1,M):=fun M=>rfl;simp![FH,l1,fB,e,l2,l3,l4,ii]
theorem aBF{w:Option CD}:FH [⟨[("NoPlace",false),("NoTree",true)],(some 6),fB⟩,⟨[("NoPlace",true),("NoTree",false)],(some 6),fA⟩] (GQ x y z c w told) xP M=some (.nx (GQ x y z c w (some (I 2))),M++[.exc false "NoPlace" []]):=by
 have e:=WZ (M:=M) (e:=.exc false "NoPlace" []);have l0:List.lookup ("NoPlace":Str) [(("NoPlace":Str),false),("NoTree",true)]=some false:=by decide +kernel
 have l1:List.lookup ("NoPlace":Str) [(("NoPlace":Str),true),("NoTree",false)]=some true:=by decide +kernel
 have l2:List.lookup ("NoPlace":Str) fH=some true:=by decide +kernel
 have l3:List.lookup ("NoPlace":Str) dU=some true:=by decide +kernel
 have ii:∀M,lM [.d (.bool true)] M=some (I 1,M):=fun M=>rfl;have m2:jC 2 1=true:=by decide
 have m3:(2:Int)*1=2:=by decide
 simp![FH,l0,l1,fA,e,l2,l3,ii,m2,m3]
noncomputable def HF(γ:Ga)(M1:Sto):Rs->Option (aGH×Sto)
 |.v _=>some (.o (.nx γ),M1)
 |.x e=>some (.xc γ e,M1)
theorem aDm{w:CD}{M1:Sto}{R:Rs}(hR:Res q R)(hb:bW (GQ x y z c (some w) (some (I 0))) M=HF (GQ x y z c (some w) (some (I 0))) M1 R):∃L,aDS (GQ x y z c (some w) (some (I 0))) M=some (.nx (GQ x y z c (some w) (some (I q))),M1++L):=by
 unfold aDS TX;rw[hb];rcases hR with⟨rfl,v,rfl⟩|⟨rfl,rfl⟩|⟨rfl,rfl⟩
 .exact⟨[],by rw[C4];rfl⟩
 .exact⟨_,by unfold HF;rw[A0];exact aEb⟩
 .exact⟨_,by unfold HF;rw[A0];exact aBF⟩
theorem aJb{M1:Sto}{R:Rs}(h:cV [.d x,.d y,.d z] M=some (R,M1)):bW (GQ x y z c (some (I 0)) (some (I 0))) M=HF (GQ x y z c (some (I 0)) (some (I 0))) M1 R:=by
 have e0:((0:Int)==0)=true:=rfl;cases R with
 |v v=>simp![bW,HF,gZ,e0,h]
 |x e=>simp![bW,HF,gZ,e0,h]
theorem aDZ{M1:Sto}{R:Rs}(h:bQ [.d x,.d y] M=some (R,M1)):bW (GQ x y z c (some (I 1)) (some (I 0))) M=HF (GQ x y z c (some (I 1)) (some (I 0))) M1 R:=by
 have e0:((1:Int)==0)=false:=rfl;cases R with
 |v v=>simp![bW,HF,gZ,e0,h]
 |x e=>simp![bW,HF,gZ,e0,h]
theorem JN{w:CD}{told:Option CD}{M1:Sto}{cs:List Int}(ht:∃L,aDS (GQ x y z c (some w) (some (I 0))) M=some (.nx (GQ x y z c (some w) (some (I q))),M1++L))(hc:Li M1 c cs)(hl:cs.length<100):
 ∃L,gM (GQ x y z c (some w) told) M=some (.nx (GQ x y z c (some w) (some (I q))),(M1++L).set c (cI (cs++[q]))):=by
 obtain⟨L,t⟩:=ht;refine⟨L,?_⟩;have ty:=hc.app (L:=L) |>.ty;have pu:=(hc.app (L:=L)).push (z:=q) (by omega);unfold gM;rw[bF (show aZ (fC (.int 0)) (hName 5) (GQ x y z c (some w) told) M=some (.nx (GQ x y z c (some w) (some (I 0))),M)from rfl),bF t];simp![bU,ty,pu]
theorem HE{L:Sto}{c c':Cell}:(M++(c::L)).set M.length c'=M++(c'::L):=by
 rw[D7 _ _ (A6 _),D4];rfl
theorem SD(x y z:PyData)(M:Sto):∃L,aS [.d x,.d y,.d z] M=some (.c M.length,M++(cI [cW x y z,cS x y]::L)):=by
 have s0:(0:Nat)<=sizeLine:=E5 _
 have a1:aZ (kK aG) (hName 3) [some (.d x),some (.d y),some (.d z),none,none,none,none] M=some (.nx (GQ x y z M.length none none),M++[cI []]):=by
  simp![s0];rfl
 obtain⟨R1,L1,e1,r1⟩:=aGs x y z (M++[cI []])
 have h0:Li (M++[cI []]++L1) M.length []:=by
  unfold Li;rw[C2,B2 (A6 _),D4];rfl
 obtain⟨L2,t1⟩:=JN (told:=none) (aDm r1 (aJb e1)) h0 (by decide)
 have n1:(M++[cI []]++L1++L2).set M.length (cI ([]++[cW x y z]))=M++(cI [cW x y z]::(L1++L2)):=by
  rw[C2,C2];exact HE
 rw[n1]at t1;obtain⟨R2,L3,e2,r2⟩:=aBY x y (M++(cI [cW x y z]::(L1++L2)))
 have h1:Li (M++(cI [cW x y z]::(L1++L2))++L3) M.length [cW x y z]:=by
  unfold Li;rw[C2,B2 (A6 _),D4];rfl
 obtain⟨L4,t2⟩:=JN (told:=some (I (cW x y z))) (aDm r2 (aDZ (z:=z) e2)) h1 (by rw[C6];decide)
 have n2:(M++(cI [cW x y z]::(L1++L2))++L3++L4).set M.length (cI ([cW x y z]++[cS x y]))=M++(cI [cW x y z,cS x y]::(L1++L2++L3++L4)):=by
  rw[C2,C2,List.cons_append];rw[show L1++L2++(L3++L4)=L1++L2++L3++L4 by rw[C2,C2,C2]];exact HE
 rw[n2]at t2;refine⟨L1++L2++L3++L4,xH rfl ?_⟩
 have lp:iI (hName 4) gM [I 0,I 1] (GQ x y z M.length none none) (M++[cI []])=some (.nx (GQ x y z M.length (some (I 1)) (some (I (cS x y)))),M++(cI [cW x y z,cS x y]::(L1++L2++L3++L4))):=by
  rw[eQ (show hName 4 (I 0) (GQ x y z M.length none none) _=some (GQ x y z M.length (some (I 0)) none,M++[cI []])from rfl) t1];rw[eQ (show hName 4 (I 1) (GQ x y z M.length (some (I 0)) (some (I (cW x y z)))) _=some (GQ x y z M.length (some (I 1)) (some (I (cW x y z))),M++(cI [cW x y z]::(L1++L2)))from rfl) t2];rfl
 have rg:cZ (aB (fC (.int 2)) aG) (GQ x y z M.length none none) (M++[cI []])=some ([I 0,I 1],M++[cI []]):=rfl;unfold lH;show aO _ _ [some (.d x),some (.d y),some (.d z),none,none,none,none] M=_;rw[bF a1,bF (nH rg lp)];rfl
theorem XE(M:Sto)(ha:fa γ M=some ([.d x,.d y,.d z],M)):∃L,bX (aK aS fa) γ M=some (.d (.list [.int (cW x y z),.int (cS x y)]),M++L):=by
 obtain⟨L,e⟩:=SD x y z M;refine⟨.dead::L,?_⟩;unfold bX aK;rw[ha,A0];dsimp only;rw[e,A0];dsimp only;rw[B2 (A6 _),D4];show(some [PyData.int (cW x y z),.int (cS x y)]).bind _=_;rw[A0,HE]
theorem OM{k:Nat}(h:aQ x=some ds):∃ds',aQ (lsN k x)=some ds'/\ds'.length=ds.length/\∀n,ds'.mapM (bI n)=ds.mapM (bI n):=by
 rcases tZ k x with e|⟨m,xs,h1,h2⟩
 .exact⟨ds,by rw[e,h],rfl,fun _=>rfl⟩
 .rw[h]at h1;cases h1;exact⟨_,h2,by rw[A2],fun n=>FB n m ds⟩
theorem Tr.ls{k:Nat}{us:List Ed}(h:Tr n x us):Tr n (lsN k x) us:=by
 obtain⟨ds,h1,h2,h3⟩:=h.it;obtain⟨ds',e1,e2,e3⟩:=OM (k:=k) h1;exact⟨⟨ds',e1,by omega,by rw[e3];exact h3⟩,h.n40,h.con⟩
theorem OC{k:Nat}(h:eT x=true):eT (lsN k x)=true:=by
 unfold eT at h ⊢;cases hi:aQ x with
 |none=>rw[hi]at h;cases h
 |some ds=>
  obtain⟨ds',e1,e2,e3⟩:=OM (k:=k) hi;rw[hi]at h;rw[e1];dsimp only at h ⊢;rw[e2,aCB];exact h
theorem Tr.root{us:List Ed}(h:Tr n x us)(hp:Inn n p):∃ss,gP n us p ss:=by
 obtain⟨ss,_,_,R⟩:=zC (γ:=[some (.d x),some (I p)]) (M:=[]) (fa:=aB (aD 0) (aB (aD 1) aG)) h hp rfl;exact⟨ss,R⟩
theorem LN:∀L:List Int,PyData.eqvAll (L.map .int) (L.map .int)=true
 |[]=>rfl
 |i::L=>by
  show((i==i)&&PyData.eqvAll (L.map .int) (L.map .int))=true;rw[LN L];simp
theorem LR(L:List Int):SeqAt.shaped (wD L)=true:=by
 unfold SeqAt.shaped;have e1:PyData.canLay0 (.tuple (L.map .int))=true:=qO L;have e2:PyData.depth (.tuple (L.map .int))=1:=by show PyData.depthAll (L.map .int)+1=1;rw[tJ]
 rw[e1,e2];rfl
theorem ne_self(L:List Int)(M:Sto):eqX true (.d (wD L)) (.d (wD L)) M=some (B false,M):=by
 show(if (SeqAt.shaped (wD L)&&SeqAt.shaped (wD L))=true then some (B (!PyData.eqv (wD L) (wD L)),M)else none)=_;rw[LR,Bool.and_self,A3 rfl,show PyData.eqv (wD L) (wD L)=PyData.eqvAll (L.map .int) (L.map .int)from rfl,LN];rfl
noncomputable def HW(M:Sto)(c:Nat)(us:List Ed)(f:Int)(n:Nat):Prop:=∃fd,M[c]?=some (.dk (kvW fd))/\∀p,Inn n p->∃L,look fd p=some L/\Walk us f L p/\L.Nodup
theorem HW.app{L:Sto}{us:List Ed}(h:HW M c us f n):HW (M++L) c us f n:=by
 obtain⟨fd,h1,h2⟩:=h;exact⟨fd,by rw[J7 (List.getElem?_eq_some_iff.mp h1).1];exact h1,h2⟩
theorem HW.get{us:List Ed}(h:HW M c us f n)(hp:Inn n p):∃L,atD M (.c c) (.inl (.inl p))=some (some (.d (wD L)))/\Walk us f L p/\L.Nodup:=by
 obtain⟨fd,h1,h2⟩:=h;obtain⟨L,l,w,nd⟩:=h2 p hp;exact⟨L,by simp only[atD,h1,aFQ,l,Option.map_some],w,nd⟩
theorem QT{us:List Ed}(M:Sto)(hT:IsT x us)(ht:Tr n x us)(hf:Inn n f):∃L,eR [.d x,I f] M=some (.c M.length,M++L)/\HW (M++L) M.length us f n:=
 ⟨_,aEi M hT ht.ok hf ht.n40 ht.ln,_,LZ,XR ht.ok hf ht.ln fun p hp=>ht.con p f hp hf⟩
noncomputable abbrev GX(x many i:CD)(c:Nat)(j h f:Option CD):Ga:=[some x,some many,some i,some (.c c),j,h,f]
theorem II{x many:CD}{M1:Sto}{U:List Int}(e:cV [.d y,I i,I j] M=some (.v (.d (wD U)),M1))(a:atD M1 (.c c) (.inl (.inl j))=some (some (.d (wD U)))):iE (GX x many (I i) c (some (I j)) (some (.d y)) g6) M=some (.nx (GX x many (I i) c (some (I j)) (some (.d y)) (some (.d (wD U)))),M1):=by
 have t:∀M,kM "tuple" (aD 6) (GX x many (I i) c (some (I j)) (some (.d y)) (some (.d (wD U)))) M=some (B true,M):=fun M=>rfl;have k1:keyOf (I j)=some (.inl j):=rfl
 have a1:aZ (iM cV (aB (aD 5) (aB (aD 2) (aB (aD 4) aG)))) (hName 6) (GX x many (I i) c (some (I j)) (some (.d y)) g6) M=some (.nx (GX x many (I i) c (some (I j)) (some (.d y)) (some (.d (wD U)))),M1):=by
  simp![e]
 have dg:lC (aD 3) (gA (aD 4)) (GX x many (I i) c (some (I j)) (some (.d y)) (some (.d (wD U)))) M1=some (.d (wD U),M1):=by
  simp![lC,gA,k1,a]
 unfold iE;rw[bF a1];have q:aD 6 (GX x many (I i) c (some (I j)) (some (.d y)) (some (.d (wD U)))) M1=some (.d (wD U),M1):=rfl;simp only[sIf,gOr,fO,gB,fOp,t,q,dg,ne_self,asB,Option.bind_some,Bool.not_true,Bool.false_eq_true,reduceIte,bC]
theorem aCC{us:List Ed}{many:CD}{g5 g6:Option CD}(hx:eT x=true)(ht:Tr n x us)(dp:dpB 6 x=true)(hw:HW M c us i n)(hi:Inn n i)(hj:Inn n j):
 ∃L g5' g6',gG (GX (.d x) many (I i) c (some (I j)) g5 g6) M=some (.nx (GX (.d x) many (I i) c (some (I j)) g5' g6'),M++L):=by
 by_cases e:j=i
 .refine⟨[],g5,g6,?_⟩;have:(!(j==i))=false:=by rw[beq_iff_eq.mpr e];rfl
  rw[C4];simp![gG,nM,this]
 .obtain⟨ss,R⟩:=ht.root hj;have ls:=FI M 6 x dp;obtain⟨U,L1,w1,wk1,nd1⟩:=FD (M:=M) hx ht hi hj (fun z=>e z.symm);obtain⟨V,L2,w2,wk2,nd2⟩:=FD (M:=M++L1) (OC (k:=6) hx) ht.ls hi hj (fun z=>e z.symm);obtain⟨K,at1,wk,nd⟩:=hw.get hj;have eU:U=K:=R.uniq wk1 nd1 wk nd;have eV:V=K:=R.uniq wk2 nd2 wk nd;subst eU eV;obtain⟨K1,a1,k1,d1⟩:=(hw.app (L:=L1)).get hj;obtain⟨K2,a2,k2,d2⟩:=(hw.app (L:=L1)).app (L:=L2) |>.get hj;rw[R.uniq k1 d1 wk nd]at a1;rw[R.uniq k2 d2 wk nd]at a2;have t1:=II (x:=.d x) (many:=many) (g6:=g6) w1 a1;have t2:=II (x:=.d x) (many:=many) (g6:=some (.d (wD V))) w2 a2;refine⟨L1++L2,some (.d (lsN 6 x)),some (.d (wD V)),?_⟩;have tt:(!(j==i))=true:=by rw[beq_eq_false_iff_ne.mpr e];rfl
  have tg:gB (fOp (eqX true) (aD 4) (aD 2)) (GX (.d x) many (I i) c (some (I j)) g5 g6) M=some (true,M):=by
   simp![nM,tt]
  have it:fU (fP (aB (aD 0) (aB (aK (bO 6) (aB (aD 0) aG)) aG))) (GX (.d x) many (I i) c (some (I j)) g5 g6) M=some ([.d x,.d (lsN 6 x)],M):=by
   have s2:(2:Nat)<=sizeLine:=by decide
   have f:fP (aB (aD 0) (aB (aK (bO 6) (aB (aD 0) aG)) aG)) (GX (.d x) many (I i) c (some (I j)) g5 g6) M=some (.d (.list [x,lsN 6 x]),M):=by
    simp![ls,s2]
   exact EM rfl f
  have lp:iI (hName 5) iE [.d x,.d (lsN 6 x)] (GX (.d x) many (I i) c (some (I j)) g5 g6) M=some (.nx (GX (.d x) many (I i) c (some (I j)) (some (.d (lsN 6 x))) (some (.d (wD V)))),M++(L1++L2)):=by
   rw[eQ (show hName 5 (.d x) (GX (.d x) many (I i) c (some (I j)) g5 g6) M=some (GX (.d x) many (I i) c (some (I j)) (some (.d x)) g6,M)from rfl) t1];rw[eQ (show hName 5 (.d (lsN 6 x)) (GX (.d x) many (I i) c (some (I j)) (some (.d x)) (some (.d (wD V)))) _=some (GX (.d x) many (I i) c (some (I j)) (some (.d (lsN 6 x))) (some (.d (wD V))),M++L1)from rfl) t2];rw[C2];rfl
  unfold gG sIf;rw[tg,A0];dsimp only;rw[A3 rfl];exact nH it lp
theorem AN{n:Nat}{x:PyData}{us:List Ed}{many:CD}{i:Int}{c:Nat}(hx:eT x=true)(ht:Tr n x us)(dp:dpB 6 x=true)(hi:Inn n i):∀(q:Nat)(lo:Int)(M:Sto)(g4 g5 g6:Option CD),HW M c us i n->0<=lo->lo+q<=n->
 ∃L g4' g5' g6',iI (hName 4) gG (fF lo q) (GX (.d x) many (I i) c g4 g5 g6) M=some (.nx (GX (.d x) many (I i) c g4' g5' g6'),M++L)
 |0=>fun lo M g4 g5 g6 _ _ _=>⟨[],g4,g5,g6,by rw[C4];rfl⟩
 |q+1=>fun lo M g4 g5 g6 hw h0 h1=>by
  obtain⟨L1,a5,a6,t⟩:=aCC (many:=many) (g5:=g5) (g6:=g6) hx ht dp hw hi (j:=lo) ⟨h0,by omega⟩;obtain⟨L2,b4,b5,b6,l⟩:=AN (many:=many) hx ht dp hi q (lo+1) (M++L1) (some (I lo)) a5 a6 hw.app (by omega) (by omega);refine⟨L1++L2,b4,b5,b6,?_⟩;rw[jF,eQ (show hName 4 (I lo) (GX (.d x) many (I i) c g4 g5 g6) M=some (GX (.d x) many (I i) c (some (I lo)) g5 g6,M)from rfl) t,l,C2]
theorem aBf{x:CD}(sm:cG J=true):cZ (aB (aD 1) aG) (some x::some (I J)::γ) M=some (fF 0 J.toNat,M):=by
 simp![cZ,sm]
theorem QF{us:List Ed}(hx:eT x=true)(hT:IsT x us)(ht:Tr n x us)(dp:dpB 6 x=true)(hi:Inn n i):∃L,dE [.d x,I n,I i] M=some (B true,M++L):=by
 obtain⟨L1,w,hw⟩:=QT M hT ht hi;have n40:=ht.n40;obtain⟨L2,a4,a5,a6,l⟩:=AN (many:=I n) hx ht dp hi n 0 (M++L1) none none none hw (by decide) (by omega)
 have rg:cZ (aB (aD 1) aG) (GX (.d x) (I n) (I i) M.length none none none) (M++L1)=some (fF 0 n,M++L1):=by
  have:=aBf (J:=(n:Int)) (x:=.d x) (γ:=[some (I i),some (.c M.length),none,none,none]) (M:=M++L1) (kL (by omega) (by omega));rw[I0]at this;exact this
 have sf:=nH rg l;refine⟨L1++L2,xH rfl ?_⟩;generalize (n:Int)=J at sf ⊢
 have a1:aZ (aK eR (aB (aD 0) (aB (aD 2) aG))) (hName 3) [some (.d x),some (I J),some (I i),none,none,none,none] M=some (.nx (GX (.d x) (I J) (I i) M.length none none none),M++L1):=by
  simp![w]
 unfold oP;show aO _ _ [some (.d x),some (I J),some (I i),none,none,none,none] M=_;rw[bF a1,bF sf,C2];rfl
noncomputable def fl(W:Int->Bool):Int->Nat->List Int
 |_,0=>[]
 |lo,q+1=>if W lo=true then lo::fl W (lo+1) q else fl W (lo+1) q
theorem fl_mem{W:Int->Bool}:∀{q:Nat}{lo p:Int},p∈fl W lo q↔(lo<=p/\p<lo+q)/\W p=true
 |0,lo,p=>by
  unfold fl;constructor
  .intro h;cases h
  .rintro⟨h,_⟩;omega
 |q+1,lo,p=>by
  have ih:=fl_mem (W:=W) (q:=q) (lo:=lo+1) (p:=p);unfold fl;by_cases e:p=lo
  .subst e;split
   .rename_i h;exact⟨fun _=>⟨⟨by omega,by omega⟩,h⟩,fun _=>B0 ..⟩
   .rename_i h;rw[ih];exact⟨fun z=>absurd z.2 h,fun z=>absurd z.2 h⟩
  .split
   .rw[List.mem_cons,ih];constructor
    .rintro(z|⟨z,y⟩)
     .exact absurd z e
     .exact⟨⟨by omega,by omega⟩,y⟩
    .rintro⟨z,y⟩;exact .inr ⟨⟨by omega,by omega⟩,y⟩
   .rw[ih];constructor
    .rintro⟨z,y⟩;exact⟨⟨by omega,by omega⟩,y⟩
    .rintro⟨z,y⟩;exact⟨⟨by omega,by omega⟩,y⟩
theorem WL{W:Int->Bool}:∀(q:Nat)(lo:Int),(fl W lo q).Pairwise (·<·)
 |0=>fun lo=>.nil
 |q+1=>fun lo=>by
  unfold fl;split
  .exact List.pairwise_cons.mpr ⟨fun p hp=>by have:=(fl_mem.mp hp).1.1;omega,WL q (lo+1)⟩
  .exact WL q (lo+1)
theorem aAM{W:Int->Bool}:∀(q:Nat)(lo:Int),(fl W lo q).length<=q
 |0=>fun lo=>A6 _
 |q+1=>fun lo=>by
  unfold fl;have:=aAM (W:=W) q (lo+1);split
  .rw[D0];omega
  .omega
noncomputable def inW(fd:Wd')(k p:Int):Bool:=match look fd p with
 |some L=>decide (k∈L)
 |none=>false
theorem any_ints(k:Int):∀L:List Int,((L.map PyData.int).any fun d=>PyData.eqv d (.int k))=decide (k∈L)
 |[]=>rfl
 |i::L=>by
  rw[B7,S0,any_ints k L];show((i==k) || decide (k∈L))=_;by_cases h:i=k
  .subst h;simp
  .have:(i==k)=false:=beq_eq_false_iff_ne.mpr h;rw[this,Bool.false_or];exact decide_eq_decide.mpr ⟨A9 _,fun z=>(List.mem_cons.mp z).resolve_left fun q=>h q.symm⟩
theorem aAq:∀L:List Int,(L.map PyData.int).all SeqAt.shaped=true
 |[]=>rfl
 |i::L=>by rw[B7,U5,aAq L];rfl
theorem aDT(k:Int)(L:List Int)(M:Sto):inD false (I k) (.d (wD L)) M=some (B (decide (k∈L)),M):=by
 show(if (SeqAt.shaped (.int k)&&(L.map PyData.int).all SeqAt.shaped)=true then some (B ((L.map PyData.int).any fun d=>PyData.eqv d (.int k)),M)else none)=_;rw[aAq,any_ints];rfl
noncomputable abbrev inT:TF:=(gB (fOp (inD false) (aD 0) (lC (aD 1) (gA (aD 2)))))
theorem QU{n c:Nat}{k:Int}{M:Sto}{fd:Wd'}(hc:M[c]?=some (.dk (kvW fd)))(hf:∀p,Inn n p->∃L,look fd p=some L):∀(q:Nat)(lo:Int)(g:Option CD),0<=lo->lo+q<=n->
 lcF (hName 2) inT (aD 2) (fF lo q) [some (I k),some (.c c),g] M=some (((fl (inW fd k) lo q).map PyData.int).map .d,M)
 |0=>fun lo g _ _=>rfl
 |q+1=>fun lo g h0 h1=>by
  have ih:=QU (k:=k) hc hf q (lo+1) (some (I lo)) (by omega) (by omega);obtain⟨L,hL⟩:=hf lo ⟨h0,by omega⟩;have k1:keyOf (I lo)=some (.inl lo):=rfl;have a1:atD M (.c c) (.inl (.inl lo))=some (some (.d (wD L))):=by simp only[atD,hc,aFQ,hL,Option.map_some]
  have it:inT [some (I k),some (.c c),some (I lo)] M=some (inW fd k lo,M):=by
   have e:inW fd k lo=decide (k∈L):=by unfold inW;rw[hL]
   rw[e];simp![inT,lC,gA,k1,a1,aDT]
  rw[jF];unfold lcF;rw[show hName 2 (I lo) [some (I k),some (.c c),g] M=some ([some (I k),some (.c c),some (I lo)],M)from rfl,A0];dsimp only;rw[it,A0];dsimp only;unfold fl;cases e:inW fd k lo with
  |true=>
   rw[A3 rfl,A3 rfl,show aD 2 [some (I k),some (.c c),some (I lo)] M=some (I lo,M)from rfl,A0];dsimp only;rw[ih];rfl
  |false=>
   rw[A7 (by decide),A7 (by decide)];exact ih
noncomputable abbrev GL(s:CD)(c:Nat)(k many tree ways at_ side found odd due bent nn:Option CD):Ga:=[some s,some (.c c),k,many,tree,ways,at_,side,found,odd,due,bent,nn]
theorem aEF{a b c:Option CD}(sm:cG J=true):cZ (aB (aD 3) aG) (a::b::c::some (I J)::γ) M=some (fF 0 J.toNat,M):=by
 simp![cZ,sm]
theorem OV{us:List Ed}{k:Int}{bs:List Int}{ss:List (Int×Int×Int)}{fd:Wd'}(R:gP n us 0 ss)(hf:∀p,Inn n p->∃L,look fd p=some L/\Walk us 0 L p/\L.Nodup)(nd:bs.Nodup)(hb:∀p,p∈bs↔Inn n p/\Beh us 0 k p):pK bs=fl (inW fd k) 0 n:=by
 have fd2:=WL (W:=inW fd k) n 0;refine rS (oE bs) (fd2.imp fun h=>Int.le_of_lt h) ((tI bs).trans ((List.perm_ext_iff_of_nodup nd (List.nodup_iff_pairwise_ne.mpr (fd2.imp fun h=>Int.ne_of_lt h))).mpr fun p=>?_));rw[hb,fl_mem]
 have key:∀hp:Inn n p,Beh us 0 k p↔inW fd k p=true:=fun hp=>by
  obtain⟨L,hL,w,ld⟩:=hf p hp;have e:inW fd k p=decide (k∈L):=by unfold inW;rw[hL]
  have wr:=LH w
  have ldr:L.reverse.Nodup:=by
   rw[S3,List.pairwise_reverse];exact(List.nodup_iff_pairwise_ne.mp ld).imp fun h e=>h e.symm
  rw[e,D8];constructor
  .rintro⟨U,u1,u2,u3⟩;rw[R.uniq u1 u2 wr ldr]at u3;exact List.mem_reverse.mp u3
  .intro z;exact⟨_,wr,ldr,List.mem_reverse.mpr z⟩
 constructor
 .rintro⟨h1,h2⟩;exact⟨⟨h1.1,by omega⟩,(key h1).mp h2⟩
 .rintro⟨h1,h2⟩;have hp:Inn n p:=⟨h1.1,by omega⟩;exact⟨hp,(key hp).mpr h2⟩
theorem SQ{s:CD}{k:Int}{kk:Option CD}{S:List Int}{M1 M2:Sto}(c1:uD (GL s c kk (some (I J)) (some (.d x)) (some (.c w)) (some (I k)) g7 g8 g9 g10 g11 g12) M=some (.d (.list (S.map .int)),M))(e1:bQ [.d x,I k] M=some (.v (.d (wD S)),M1))(ls:bO 6 [.d x] M1=some (.d (lsN 6 x),M1))(e2:bQ [.d (lsN 6 x),I k] M1=some (.v (.d (wD S)),M2)):
 rW (GL s c kk (some (I J)) (some (.d x)) (some (.c w)) (some (I k)) g7 g8 g9 g10 g11 g12) M=some (.nx (GL s c kk (some (I J)) (some (.d x)) (some (.c w)) (some (I k)) (some (.d (wD S))) (some (.d (wD S))) g9 g10 g11 g12),M2):=by
 have tv:dN [.d (.list (S.map .int))] M=some (.d (wD S),M):=rfl
 have a1:aZ (aK dN (aB uD aG)) (hName 7) (GL s c kk (some (I J)) (some (.d x)) (some (.c w)) (some (I k)) g7 g8 g9 g10 g11 g12) M=some (.nx (GL s c kk (some (I J)) (some (.d x)) (some (.c w)) (some (I k)) (some (.d (wD S))) g8 g9 g10 g11 g12),M):=by
  simp![c1,tv]
 have a2:aZ (iM bQ (aB (aD 4) (aB (aD 6) aG))) (hName 8) (GL s c kk (some (I J)) (some (.d x)) (some (.c w)) (some (I k)) (some (.d (wD S))) g8 g9 g10 g11 g12) M=some (.nx (GL s c kk (some (I J)) (some (.d x)) (some (.c w)) (some (I k)) (some (.d (wD S))) (some (.d (wD S))) g9 g10 g11 g12),M1):=by
  simp![e1]
 have t:∀M,kM "tuple" (aD 8) (GL s c kk (some (I J)) (some (.d x)) (some (.c w)) (some (I k)) (some (.d (wD S))) (some (.d (wD S))) g9 g10 g11 g12) M=some (B true,M):=fun M=>rfl;have v8:∀M,aD 8 (GL s c kk (some (I J)) (some (.d x)) (some (.c w)) (some (I k)) (some (.d (wD S))) (some (.d (wD S))) g9 g10 g11 g12) M=some (.d (wD S),M):=fun M=>rfl;have v7:∀M,aD 7 (GL s c kk (some (I J)) (some (.d x)) (some (.c w)) (some (I k)) (some (.d (wD S))) (some (.d (wD S))) g9 g10 g11 g12) M=some (.d (wD S),M):=fun M=>rfl
 have cx:iM bQ (aB (aK (bO 6) (aB (aD 4) aG)) (aB (aD 6) aG)) (GL s c kk (some (I J)) (some (.d x)) (some (.c w)) (some (I k)) (some (.d (wD S))) (some (.d (wD S))) g9 g10 g11 g12) M1=some (.d (wD S),M2):=by
  simp![ls,e2]
 unfold rW;rw[bF a1,bF a2];simp only[sIf,gOr,fO,gB,fOp,t,v8,v7,cx,ne_self,asB,Option.bind_some,Bool.not_true,Bool.false_eq_true,reduceIte,bC]
theorem UL{c:Nat}{us:List Ed}{s:CD}{k:Int}{kk g7 g8 g9 g10 g11 g12:Option CD}(hx:eT x=true)(ht:Tr n x us)(h0:0<n)(dp:dpB 6 x=true)(hw:HW M w us 0 n)(hk:0<=k/\k<(n:Int)-1):
 ∃S L,rW (GL s c kk (some (I n)) (some (.d x)) (some (.c w)) (some (I k)) g7 g8 g9 g10 g11 g12) M=some (.nx (GL s c kk (some (I n)) (some (.d x)) (some (.c w)) (some (I k)) (some (.d (wD S))) (some (.d (wD S))) g9 g10 g11 g12),M++L):=by
 obtain⟨ss,R⟩:=ht.root (p:=0) ⟨by omega,by omega⟩;obtain⟨fd,w1,w2⟩:=hw;have n40:=ht.n40
 have lx:lnD x=(n:Int)-1:=by
  obtain⟨ds,h1,h2,_⟩:=ht.it;unfold lnD;rw[h1];show((ds.length:Nat):Int)=_;omega
 have lx2:lnD (lsN 6 x)=(n:Int)-1:=by
  obtain⟨ds,h1,h2,_⟩:=(ht.ls (k:=6)).it;unfold lnD;rw[h1];show((ds.length:Nat):Int)=_;omega
 have pl:plB ((n:Int)-1) (.int k)=true:=by
  show(decide (0<=k)&&decide (k<(n:Int)-1))=true;rw[B1 hk.1,B1 hk.2];rfl
 obtain⟨bs,L1,e1,b1,b2⟩:=yN (k:=k) (M:=M) hx ht h0 (by rw[lx];exact pl);obtain⟨bt,L2,e2,t1,t2⟩:=yN (k:=k) (M:=M++L1) (OC (k:=6) hx) ht.ls h0 (by rw[lx2];exact pl);rw[OV R w2 b1 b2]at e1;rw[OV R w2 t1 t2]at e2
 have rg:cZ (aB (aD 3) aG) (GL s c kk (some (I n)) (some (.d x)) (some (.c w)) (some (I k)) g7 g8 g9 g10 g11 g12) M=some (fF 0 n,M):=by
  have:=aEF (J:=(n:Int)) (a:=some s) (b:=some (.c c)) (c:=kk) (γ:=[some (.d x),some (.c w),some (I k),g7,g8,g9,g10,g11,g12]) (M:=M) (kL (by omega) (by omega));rw[I0]at this;exact this
 have c1:uD (GL s c kk (some (I n)) (some (.d x)) (some (.c w)) (some (I k)) g7 g8 g9 g10 g11 g12) M=some (.d (.list ((fl (inW fd k) 0 n).map .int)),M):=by
  unfold uD;refine tP rg (sz (by rw[yJ];omega)) ?_ (sz (by rw[A2];have:=aAM (W:=inW fd k) n 0;omega));exact QU w1 (fun p hp=>let⟨L,h,_⟩:=w2 p hp;⟨L,h⟩) n 0 none (by decide) (by omega)
 refine⟨fl (inW fd k) 0 n,L1++L2,?_⟩;rw[<- C2];exact SQ c1 e1 (FI _ 6 x dp) e2
theorem DO{n c w:Nat}{x:PyData}{us:List Ed}{s:CD}{kk g9 g10 g11 g12:Option CD}(hx:eT x=true)(ht:Tr n x us)(h0:0<n)(dp:dpB 6 x=true):∀(q:Nat)(lo:Int)(M:Sto)(g6 g7 g8:Option CD),HW M w us 0 n->0<=lo->lo+q<=(n:Int)-1->
 ∃L g6' g7' g8',iI (hName 6) rW (fF lo q) (GL s c kk (some (I n)) (some (.d x)) (some (.c w)) g6 g7 g8 g9 g10 g11 g12) M=some (.nx (GL s c kk (some (I n)) (some (.d x)) (some (.c w)) g6' g7' g8' g9 g10 g11 g12),M++L)
 |0=>fun lo M g6 g7 g8 _ _ _=>⟨[],g6,g7,g8,by rw[C4];rfl⟩
 |q+1=>fun lo M g6 g7 g8 hw l0 l1=>by
  obtain⟨S,L1,t⟩:=UL (c:=c) (s:=s) (kk:=kk) (g7:=g7) (g8:=g8) (g9:=g9) (g10:=g10) (g11:=g11) (g12:=g12) hx ht h0 dp hw (k:=lo) ⟨l0,by omega⟩;obtain⟨L2,b6,b7,b8,l⟩:=DO (c:=c) (s:=s) (kk:=kk) (g9:=g9) (g10:=g10) (g11:=g11) (g12:=g12) hx ht h0 dp q (lo+1) (M++L1) (some (I lo)) (some (.d (wD S))) (some (.d (wD S))) hw.app (by omega) (by omega);refine⟨L1++L2,b6,b7,b8,?_⟩;rw[jF,eQ (show hName 6 (I lo) (GL s c kk (some (I n)) (some (.d x)) (some (.c w)) g6 g7 g8 g9 g10 g11 g12) M=some (GL s c kk (some (I n)) (some (.d x)) (some (.c w)) (some (I lo)) g7 g8 g9 g10 g11 g12,M)from rfl) t,l,C2]
theorem ZQ:eqX true (.d (.list [.int a,.int b])) (.d (.list [.int a,.int b])) M=some (B false,M):=by
 show some (B (!((a==a)&&((b==b)&&true))),M)=_;simp
theorem FG(ha:fa γ M=some ([.d x,.d y,.d z],M))(he:∀M',e γ M'=some (.d (.list [.int (cW x y z),.int (cS x y)]),M')):∃L,sIf (gB (fOp (eqX true) (bX (aK aS fa)) e)) (bK (fC (.bool false))) bC γ M=some (.nx γ,M++L):=by
 obtain⟨L,f⟩:=XE M ha;refine⟨L,?_⟩;simp only[sIf,gB,fOp,f,he,ZQ,asB,Option.bind_some,Bool.false_eq_true,reduceIte,bC]
theorem OU{M:Sto}{nb:Bool}(hn:∀M,aD 12 γ M=some (B nb,M))(ha:fa γ M=some ([.d x,.d y,.d z],M))(he:nb=true->∀M',e γ M'=some (.d (.list [.int (cW x y z),.int (cS x y)]),M')):∃L,sIf (kZ (nA (aD 12)) (gB (fOp (eqX true) (bX (aK aS fa)) e))) (bK (fC (.bool false))) bC γ M=some (.nx γ,M++L):=by
 cases nb with
 |false=>
  have t:nA (aD 12) γ M=some (false,M):=by unfold nA;rw[hn];rfl
  refine⟨[],?_⟩;rw[C4];simp only[sIf,kZ,t,Option.bind_some,Bool.false_eq_true,reduceIte,bC]
 |true=>
  have t:nA (aD 12) γ M=some (true,M):=by unfold nA;rw[hn];rfl
  obtain⟨L,f⟩:=XE M ha;refine⟨L,?_⟩;simp only[sIf,kZ,t,gB,fOp,f,he rfl,ZQ,asB,Option.bind_some,Bool.false_eq_true,reduceIte,if_true,bC]
noncomputable def pX(J:Int):List PyData:=[.bool true,.bool false,.none,.str "0",.int (-1),.int J,.int E30,.tuple [.int 0],.dict [],.int 0]
noncomputable def qS(J:Int)(d:PyData):Int:=if plB (J-1) d=true then 0 else 2
theorem aGY(h:d∈pX J)(j0:0<J)(j40:J<=40):unB J d (.int 0)=false:=by
 unfold pX at h;simp only[List.mem_cons,List.not_mem_nil,or_false]at h;have no:∀d,plB J d=false->unB J d (.int 0)=false:=fun d e=>by unfold unB;rw[e];rfl
 rcases h with rfl|rfl|rfl|rfl|rfl|rfl|rfl|rfl|rfl|rfl
 .exact no _ rfl
 .exact no _ rfl
 .exact no _ rfl
 .exact no _ rfl
 .exact no _ rfl
 .refine no _ ?_;show(decide (0<=J)&&decide (J<J))=false;rw[C1 (Int.lt_irrefl J),F7]
 .refine no _ ?_;show(decide (0<=E30)&&decide (E30<J))=false;rw[C1 (show ¬E30<J by unfold E30;omega),F7]
 .exact no _ rfl
 .exact no _ rfl
 .unfold unB;show(_&&(_&&false))=false;rw[F7,F7]
noncomputable abbrev UJ:SF:=(sIf (kZ (gB (kM "int" (aD 9))) (kZ (fO (gB (kM "bool" (aD 9)))) (kZ (gB (fOp (eqX false) (aD 9) (fC (.int 0)))) (gB (fOp gtI (aD 3) (fC (.int 1))))))) (aZ HA (hName 10)) bC)
theorem aGU(h:d∈pX J)(j0:0<J)(j40:J<=40){s:CD}{c:Nat}{k tree ways g6 g7 g8 g11 g12:Option CD}{M:Sto}:
 UJ (GL s c k (some (I J)) tree ways g6 g7 g8 (some (.d d)) (some (.d (.list [.int 2,.int 2]))) g11 g12) M=some (.nx (GL s c k (some (I J)) tree ways g6 g7 g8 (some (.d d)) (some (.d (.list [.int 2,.int (qS J d)]))) g11 g12),M):=by
 have q2:∀d,plB (J-1) d=false->qS J d=2:=fun d e=>by unfold qS;rw[e];rfl
 unfold pX at h;simp only[List.mem_cons,List.not_mem_nil,or_false]at h;rcases h with rfl|rfl|rfl|rfl|rfl|rfl|rfl|rfl|rfl|rfl
 .rw[q2 _ rfl];rfl
 .rw[q2 _ rfl];rfl
 .rw[q2 _ rfl];rfl
 .rw[q2 _ rfl];rfl
 .rw[q2 _ rfl];rfl
 .rw[q2 _ (by show(decide (0<=J)&&decide (J<J-1))=false;rw[C1 (show ¬J<J-1 by omega),F7])];have e:(J==0)=false:=beq_eq_false_iff_ne.mpr (by omega);have t1:∀M,kM "int" (aD 9) (GL s c k (some (I J)) tree ways g6 g7 g8 (some (I J)) (some (.d (.list [.int 2,.int 2]))) g11 g12) M=some (B true,M):=fun M=>rfl;have t2:∀M,kM "bool" (aD 9) (GL s c k (some (I J)) tree ways g6 g7 g8 (some (I J)) (some (.d (.list [.int 2,.int 2]))) g11 g12) M=some (B false,M):=fun M=>rfl
  have t3:∀M,fOp (eqX false) (aD 9) (fC (.int 0)) (GL s c k (some (I J)) tree ways g6 g7 g8 (some (I J)) (some (.d (.list [.int 2,.int 2]))) g11 g12) M=some (B false,M):=fun M=>by
   show some (B (J==0),M)=_;rw[e]
  simp only[UJ,sIf,kZ,fO,gB,t1,t2,t3,asB,Option.bind_some,if_true,Bool.not_false,Bool.false_eq_true,reduceIte,bC]
 .rw[q2 _ (by show(decide (0<=E30)&&decide (E30<J-1))=false;rw[C1 (show ¬E30<J-1 by unfold E30;omega),F7])];rfl
 .rw[q2 _ rfl];rfl
 .rw[q2 _ rfl];rfl
 .have t1:∀M,kM "int" (aD 9) (GL s c k (some (I J)) tree ways g6 g7 g8 (some (I 0)) (some (.d (.list [.int 2,.int 2]))) g11 g12) M=some (B true,M):=fun M=>rfl;have t2:∀M,kM "bool" (aD 9) (GL s c k (some (I J)) tree ways g6 g7 g8 (some (I 0)) (some (.d (.list [.int 2,.int 2]))) g11 g12) M=some (B false,M):=fun M=>rfl;have t3:∀M,fOp (eqX false) (aD 9) (fC (.int 0)) (GL s c k (some (I J)) tree ways g6 g7 g8 (some (I 0)) (some (.d (.list [.int 2,.int 2]))) g11 g12) M=some (B true,M):=fun M=>rfl;have t4:∀M,fOp gtI (aD 3) (fC (.int 1)) (GL s c k (some (I J)) tree ways g6 g7 g8 (some (I 0)) (some (.d (.list [.int 2,.int 2]))) g11 g12) M=some (B (decide (1<J)),M):=fun M=>rfl;by_cases e:1<J
  .have p:qS J (.int 0)=0:=by
    unfold qS;rw[A3];show(decide (0<=(0:Int))&&decide (0<J-1))=true;rw[B1 (show(0:Int)<J-1 by omega)];rfl
   have de:decide (1<J)=true:=B1 e;have as:∀M,aZ HA (hName 10) (GL s c k (some (I J)) tree ways g6 g7 g8 (some (I 0)) (some (.d (.list [.int 2,.int 2]))) g11 g12) M=some (.nx (GL s c k (some (I J)) tree ways g6 g7 g8 (some (I 0)) (some (.d (.list [.int 2,.int 0]))) g11 g12),M):=fun M=>rfl;rw[p];simp only[UJ,sIf,kZ,fO,gB,t1,t2,t3,t4,de,asB,Option.bind_some,if_true,Bool.not_false,as]
  .have p:qS J (.int 0)=2:=by
    refine q2 _ ?_;show(decide (0<=(0:Int))&&decide (0<J-1))=false;rw[C1 (show ¬(0:Int)<J-1 by omega),F7]
   have de:decide (1<J)=false:=C1 e;rw[p];simp only[UJ,sIf,kZ,fO,gB,t1,t2,t3,t4,de,asB,Option.bind_some,if_true,Bool.not_false,Bool.false_eq_true,reduceIte,bC]
noncomputable abbrev aAi:EF:=(fOp ixF (fP (aB (fC (.bool true)) (aB (fC (.bool false)) (aB (fC .none) (aB (fC (.str "0")) (aB (fUn yD (fC (.int 1))) (aB (aD 3) (aB (fOp CB (fC (.int 10)) (fC (.int 30))) (aB HH (aB wL (aB (fC (.int 0)) aG))))))))))) (fOp gN (bU "list" jD (aD 1) aG) (fC (.int 10))))
theorem aGn{s:CD}{k tree ways:Option CD}(hd:Dk M c (m+1)):∃d M1,aAi (GL s c k (some (I J)) tree ways g6 g7 g8 g9 g10 g11 g12) M=some (.d d,M1)/\d∈pX J/\Dk M1 c m/\Oth c M M1:=by
 obtain⟨z,M1,po,d1,o1⟩:=hd.pop;obtain⟨d,h1,h2⟩:=uY (ds:=pX J) (k:=z) (m:=10) (by decide) rfl;refine⟨d,M1,?_,h2,d1,o1⟩;have ls:(fP (aB (fC (.bool true)) (aB (fC (.bool false)) (aB (fC .none) (aB (fC (.str "0")) (aB (fUn yD (fC (.int 1))) (aB (aD 3) (aB (fOp CB (fC (.int 10)) (fC (.int 30))) (aB HH (aB wL (aB (fC (.int 0)) aG))))))))))) (GL s c k (some (I J)) tree ways g6 g7 g8 g9 g10 g11 g12) M=some (.d (.list (pX J)),M):=rfl;have mk:hX z 10=true:=dQ (by decide)
 have po2:fOp gN (bU "list" jD (aD 1) aG) (fC (.int 10)) (GL s c k (some (I J)) tree ways g6 g7 g8 g9 g10 g11 g12) M=some (I (z % 10),M1):=by
  simp![bU,hd.ty,po,mk]
 unfold aAi;show(Option.bind _ _)=_;rw[ls,A0];dsimp only;rw[po2,A0];show(atI (pX J) (z % 10)).bind _=_;rw[h1];rfl
noncomputable abbrev xA:EF:=(fOr (wI (aK dA (aB (aD 11) aG))) (wI (aK bP (aB (fOp cC (aK eF (aB (aD 11) aG)) (fC (.int 1))) (aB (aD 11) aG)))))
theorem SH{b:Bool}{M:Sto}(hv:∀M,aD 11 γ M=some (.d d,M))(r:fT d=true)(ln:∀M,eF [.d d] M=some (I J,M))(h:bP [I (J+1),.d d] M=some (B b,M)):xA γ M=some (B (!b),M):=by
 have a1:cC (I J) (I 1) M=some (I (J+1),M):=rfl
 have f1:aK dA (aB (aD 11) aG) γ M=some (B true,M):=by
  unfold aK aB aG;rw[hv,A0,A0,A0,bA,r]
 have f2:aK bP (aB (fOp cC (aK eF (aB (aD 11) aG)) (fC (.int 1))) (aB (aD 11) aG)) γ M=some (B b,M):=by
  simp only[aK,aB,aG,fOp,fC,hv,Option.bind_some,ln,a1,h]
 simp only[xA,fOr,wI,f1,f2,Option.bind_some,asB,Bool.not_true,Bool.false_eq_true,reduceIte]
theorem aCR{M:Sto}(hv:∀M,aD 11 γ M=some (.d d,M))(r:fT d=false):xA γ M=some (B true,M):=by
 have f1:aK dA (aB (aD 11) aG) γ M=some (B false,M):=by
  unfold aK aB aG;rw[hv,A0,A0,A0,bA,r]
 simp only[xA,fOr,wI,f1,Option.bind_some,asB,Bool.not_false,if_true]
theorem aER{M:Sto}(hv:∀M,aD 11 γ M=some (.d d,M))(ok:okX d=true):∃nb,xA γ M=some (B nb,M)/\(nb=true->eT d=false):=by
 unfold okX at ok;rw[B3,B3]at ok;cases hi:aQ d with
 |none=>
  have r:fT d=false:=by rw[fE,hi];rfl
  exact⟨true,aCR hv r,fun _=>by unfold eT;rw[hi]⟩
 |some ds=>
  have r:fT d=true:=by rw[fE,hi];rfl
  have l90:ds.length<=90:=by
   have:=ok.2;unfold lnB at this;rw[hi]at this;exact D6 this
  have t:=CQ (n:=ds.length+1) (Nat.succ_pos _) (by omega) d M (aEH ok.1.2);refine⟨!(eN (ds.length+1) d),SH hv r (fun M=>dI hi) t,fun e=>?_⟩;rw[Bool.not_eq_true']at e;unfold eT;rw[hi];dsimp only;rw[e,F7]
theorem DN(h:eT x=false):cW x y z=1/\cS x y=1:=by
 unfold cW cS;rw[h];exact⟨rfl,rfl⟩
section
variable{s:CD}{c:Nat}{k g4 g5 g6 g7 g8 g9 g10 g11 g12:Option CD}
theorem st2{x:CD}{M1:Sto}(e:gJ [.c c,I J] M=some (x,M1)):aZ (aK gJ (aB (aD 1) (aB (aD 3) aG))) (hName 4) (GL s c k (some (I J)) g4 g5 g6 g7 g8 g9 g10 g11 g12) M=some (.nx (GL s c k (some (I J)) (some x) g5 g6 g7 g8 g9 g10 g11 g12),M1):=by
 simp![e]
theorem st3{z:Int}{x:CD}{M1 M2 M3:Sto}(ty:tyB "list" M (.c c)=true)(po:jD (.c c) [] M=some (I z,M1))(mk:hX z J=true)(r1:dE [x,I J,I (z % J)] M1=some (B true,M2))(r2:dE [x,I J,I 0] M2=some (B true,M3)):
 sIf (gOr (fO (gB (aK dE (aB (aD 4) (aB (aD 3) (aB (fOp gN (bU "list" jD (aD 1) aG) (aD 3)) aG)))))) (fO (gB (aK dE (aB (aD 4) (aB (aD 3) (aB (fC (.int 0)) aG))))))) (bK (fC (.bool false))) bC (GL s c k (some (I J)) (some x) g5 g6 g7 g8 g9 g10 g11 g12) M=some (.nx (GL s c k (some (I J)) (some x) g5 g6 g7 g8 g9 g10 g11 g12),M3):=by
 simp![bU,ty,po,mk,r1,r2]
theorem st4{x:CD}{M1:Sto}(e:eR [x,I 0] M=some (.c w,M1)):aZ (aK eR (aB (aD 4) (aB (fC (.int 0)) aG))) (hName 5) (GL s c k (some (I J)) (some x) g5 g6 g7 g8 g9 g10 g11 g12) M=some (.nx (GL s c k (some (I J)) (some x) (some (.c w)) g6 g7 g8 g9 g10 g11 g12),M1):=by
 simp![e]
theorem aCS(sm:cG (J-1)=true):cZ (aB (fOp sE (aD 3) (fC (.int 1))) aG) (GL s c k (some (I J)) g4 g5 g6 g7 g8 g9 g10 g11 g12) M=some (fF 0 (J-1).toNat,M):=by
 simp![cZ,sm]
theorem aJv{z:Int}{x d:CD}{M1 M2:Sto}(ty:tyB "list" M (.c c)=true)(po:jD (.c c) [] M=some (I z,M1))(e:bM [x,I z,I J] M1=some (d,M2)):aZ (aK bM (aB (aD 4) (aB (bU "list" jD (aD 1) aG) (aB (aD 3) aG)))) (hName 11) (GL s c k (some (I J)) (some x) g5 g6 g7 g8 g9 g10 g11 g12) M=some (.nx (GL s c k (some (I J)) (some x) g5 g6 g7 g8 g9 g10 (some d) g12),M2):=by
 simp![bU,ty,po,e]
theorem l11:fP (aB (fOp sI (fC (.int 2)) (aK lM (aB (fOp (eqX false) (aD 3) (fC (.int 1))) aG))) (aB (fC (.int 2)) aG)) (GL s c k (some (I J)) g4 g5 g6 g7 g8 g9 g10 g11 g12) M=some (.d (.list [.int (if (J==1)=true then 2 else 0),.int 2]),M):=by
 have s2:(2:Nat)<=sizeLine:=by decide
 cases h:(J==1)with
 |true=>
  have ii:lM [.d (.bool true)] M=some (I 1,M):=rfl;have m1:jC 2 1=true:=by decide
  have m2:(2:Int)*1=2:=by decide
  simp![gZ,h,ii,m1,m2,s2]
 |false=>
  have ii:lM [.d (.bool false)] M=some (I 0,M):=rfl;have m1:jC 2 0=true:=by decide
  have m2:(2:Int)*0=0:=by decide
  simp![gZ,h,ii,m1,m2,s2]
end
theorem aAJ(h:eT x=true)(l:lnD x=J-1)(u:unB J y z=false):cW x y z=2:=by
 unfold cW;rw[h,A3 rfl,l,show J-1+1=J by omega,u];rfl
theorem aFe(h:eT x=true)(l:lnD x=J-1):cS x y=qS J y:=by
 unfold cS qS;rw[h,A3 rfl,l]
theorem aBC(h:eT x=true)(l:lnD x=J-1)(j0:0<J):cW x (.int (J-1)) (.int 0)=if (J==1)=true then 2 else 0:=by
 by_cases e:J=1
 .subst e;exact aAJ (J:=1) h l rfl
 .have e1:(J==1)=false:=beq_eq_false_iff_ne.mpr e;rw[e1,A7 (by decide)];unfold cW;rw[h,A3 rfl,l,show J-1+1=J by omega,A3];unfold unB
  have p1:plB J (.int (J-1))=true:=by
   show(decide (0<=J-1)&&decide (J-1<J))=true;rw[B1 (show 0<=J-1 by omega),B1 (show J-1<J by omega)];rfl
  have p2:plB J (.int 0)=true:=by
   show(decide (0<=(0:Int))&&decide (0<J))=true;rw[B1 j0];rfl
  rw[p1,p2];show(!(J-1==0))=true;rw[show(J-1==0)=false from beq_eq_false_iff_ne.mpr (by omega)];rfl
theorem aAk(h:J-1<=K):qS J (.int K)=2:=by
 unfold qS;rw[A7];show ¬(decide (0<=K)&&decide (K<J-1))=true;rw[C1 (show ¬K<J-1 by omega),F7];decide
noncomputable abbrev aDl:SF:=(aO (aZ (aK gJ (aB (aD 1) (aB (aD 3) aG))) (hName 4))
 (aO (sIf (gOr (fO (gB (aK dE (aB (aD 4) (aB (aD 3) (aB (fOp gN (bU "list" jD (aD 1) aG) (aD 3)) aG)))))) (fO (gB (aK dE (aB (aD 4) (aB (aD 3) (aB (fC (.int 0)) aG)))))))
  (bK (fC (.bool false)))
  bC)
 (aO (aZ (aK eR (aB (aD 4) (aB (fC (.int 0)) aG))) (hName 5))
 (aO (kW (cZ (aB (fOp sE (aD 3) (fC (.int 1))) aG)) (hName 6) rW)
 (aO (aZ aAi (hName 9))
 (aO (aZ vJ (hName 10))
 (aO UJ
 (aO (sIf (gB (fOp (eqX true) (bX (aK aS (aB (aD 4) (aB (aD 9) (aB (fC (.int 0)) aG))))) (aD 10)))
  (bK (fC (.bool false)))
  bC)
 (aO (sIf (gB (fOp (eqX true) (bX (aK aS (aB (aD 4) (aB (aD 3) (aB (fC (.int 0)) aG))))) uP))
  (bK (fC (.bool false)))
  bC)
 (aO (sIf (gB (fOp (eqX true) (bX (aK aS (aB (aD 4) (aB (fOp sE (aD 3) (fC (.int 1))) (aB (fC (.int 0)) aG))))) (fP (aB (fOp sI (fC (.int 2)) (aK lM (aB (fOp (eqX false) (aD 3) (fC (.int 1))) aG))) (aB (fC (.int 2)) aG)))))
  (bK (fC (.bool false)))
  bC)
 (aO (aZ (aK bM (aB (aD 4) (aB (bU "list" jD (aD 1) aG) (aB (aD 3) aG)))) (hName 11))
 (aO (aZ xA (hName 12))
 (aO (sIf (kZ (nA (aD 12)) (gB (fOp (eqX true) (bX (aK aS (aB (aD 11) (aB (fC (.int 0)) (aB (fC (.int 1)) aG))))) pT)))
  (bK (fC (.bool false)))
  bC)
 (sIf (kZ (nA (aD 12)) (gB (fOp (eqX true) (bX (aK aS (aB (aD 11) (aB (fC .none) (aB (fC (.str "x")) aG))))) qJ)))
  (bK (fC (.bool false)))
  bC))))))))))))))
theorem RQ{s:CD}{w:Nat}{k g6 g7 g8 g9 g10 g11 g12:Option CD}{vs:List Tie}(j0:0<J)(j40:J<=40)(hx:eT (.tuple (vs.map rD))=true)(lx:lnD (.tuple (vs.map rD))=J-1)(am:∀t∈vs,Am t.a t.b)(vl:vs.length<=39)(hd:Dk M c (m+2)):
 ∃M' g9' g10' g11' g12',(aO (aZ aAi (hName 9))
 (aO (aZ vJ (hName 10))
 (aO UJ
 (aO (sIf (gB (fOp (eqX true) (bX (aK aS (aB (aD 4) (aB (aD 9) (aB (fC (.int 0)) aG))))) (aD 10)))
  (bK (fC (.bool false)))
  bC)
 (aO (sIf (gB (fOp (eqX true) (bX (aK aS (aB (aD 4) (aB (aD 3) (aB (fC (.int 0)) aG))))) uP))
  (bK (fC (.bool false)))
  bC)
 (aO (sIf (gB (fOp (eqX true) (bX (aK aS (aB (aD 4) (aB (fOp sE (aD 3) (fC (.int 1))) (aB (fC (.int 0)) aG))))) (fP (aB (fOp sI (fC (.int 2)) (aK lM (aB (fOp (eqX false) (aD 3) (fC (.int 1))) aG))) (aB (fC (.int 2)) aG)))))
  (bK (fC (.bool false)))
  bC)
 (aO (aZ (aK bM (aB (aD 4) (aB (bU "list" jD (aD 1) aG) (aB (aD 3) aG)))) (hName 11))
 (aO (aZ xA (hName 12))
 (aO (sIf (kZ (nA (aD 12)) (gB (fOp (eqX true) (bX (aK aS (aB (aD 11) (aB (fC (.int 0)) (aB (fC (.int 1)) aG))))) pT)))
  (bK (fC (.bool false)))
  bC)
 (sIf (kZ (nA (aD 12)) (gB (fOp (eqX true) (bX (aK aS (aB (aD 11) (aB (fC .none) (aB (fC (.str "x")) aG))))) qJ)))
  (bK (fC (.bool false)))
  bC)))))))))) (GL s c k (some (I J)) (some (tr vs)) (some (.c w)) g6 g7 g8 g9 g10 g11 g12) M=some (.nx (GL s c k (some (I J)) (some (tr vs)) (some (.c w)) g6 g7 g8 g9' g10' g11' g12'),M')/\Dk M' c m:=by
 obtain⟨d,M1,e6,hm,d1,_⟩:=aGn (s:=s) (k:=k) (tree:=some (tr vs)) (ways:=some (.c w)) (g6:=g6) (g7:=g7) (g8:=g8) (g9:=g9) (g10:=g10) (g11:=g11) (g12:=g12) (J:=J) (m:=m+1) hd;have a6:aZ aAi (hName 9) (GL s c k (some (I J)) (some (tr vs)) (some (.c w)) g6 g7 g8 g9 g10 g11 g12) M=some (.nx (GL s c k (some (I J)) (some (tr vs)) (some (.c w)) g6 g7 g8 (some (.d d)) g10 g11 g12),M1):=tG e6;have a7:aZ vJ (hName 10) (GL s c k (some (I J)) (some (tr vs)) (some (.c w)) g6 g7 g8 (some (.d d)) g10 g11 g12) M1=some (.nx (GL s c k (some (I J)) (some (tr vs)) (some (.c w)) g6 g7 g8 (some (.d d)) (some (.d (.list [.int 2,.int 2]))) g11 g12),M1):=tG (YA _ _);have a8:=aGU hm j0 j40 (s:=s) (c:=c) (k:=k) (tree:=some (tr vs)) (ways:=some (.c w)) (g6:=g6) (g7:=g7) (g8:=g8) (g11:=g11) (g12:=g12) (M:=M1);have c9:cW (.tuple (vs.map rD)) d (.int 0)=2:=aAJ hx lx (aGY hm j0 j40);obtain⟨L9,a9⟩:=FG (x:=.tuple (vs.map rD)) (y:=d) (z:=.int 0) (fa:=aB (aD 4) (aB (aD 9) (aB (fC (.int 0)) aG))) (e:=aD 10) (γ:=GL s c k (some (I J)) (some (tr vs)) (some (.c w)) g6 g7 g8 (some (.d d)) (some (.d (.list [.int 2,.int (qS J d)]))) g11 g12) (M:=M1) rfl (fun M'=>by rw[c9,aFe hx lx];rfl)
 have c10:cW (.tuple (vs.map rD)) (.int J) (.int 0)=2:=aAJ hx lx (by
  unfold unB
  have:plB J (.int J)=false:=by
   show(decide (0<=J)&&decide (J<J))=false;rw[C1 (Int.lt_irrefl J),F7]
  rw[this];rfl)
 have q10:cS (.tuple (vs.map rD)) (.int J)=2:=by rw[aFe hx lx];exact aAk (by omega)
 obtain⟨L10,a10⟩:=FG (x:=.tuple (vs.map rD)) (y:=.int J) (z:=.int 0) (fa:=aB (aD 4) (aB (aD 3) (aB (fC (.int 0)) aG))) (e:=uP) (γ:=GL s c k (some (I J)) (some (tr vs)) (some (.c w)) g6 g7 g8 (some (.d d)) (some (.d (.list [.int 2,.int (qS J d)]))) g11 g12) (M:=M1++L9) rfl (fun M'=>by rw[c10,q10];exact ZM _ _);have q11:cS (.tuple (vs.map rD)) (.int (J-1))=2:=by rw[aFe hx lx];exact aAk (by omega)
 obtain⟨L11,a11⟩:=FG (x:=.tuple (vs.map rD)) (y:=.int (J-1)) (z:=.int 0) (fa:=aB (aD 4) (aB (fOp sE (aD 3) (fC (.int 1))) (aB (fC (.int 0)) aG))) (e:=fP (aB (fOp sI (fC (.int 2)) (aK lM (aB (fOp (eqX false) (aD 3) (fC (.int 1))) aG))) (aB (fC (.int 2)) aG))) (γ:=GL s c k (some (I J)) (some (tr vs)) (some (.c w)) g6 g7 g8 (some (.d d)) (some (.d (.list [.int 2,.int (qS J d)]))) g11 g12) (M:=M1++L9++L10) rfl (fun M'=>by rw[q11,aBC hx lx j0];exact l11);have d2:Dk (M1++L9++L10++L11) c (m+1):=d1.app.app.app;obtain⟨z,M2,po,d3,_⟩:=d2.pop;obtain⟨b,L12,eb,ox⟩:=aEy (rs:=vs) (k:=z) (n:=J) (M:=M2) am vl j0 j40;have a12:=aJv (s:=s) (k:=k) (g5:=some (.c w)) (g6:=g6) (g7:=g7) (g8:=g8) (g9:=some (.d d)) (g10:=some (.d (.list [.int 2,.int (qS J d)]))) (g11:=g11) (g12:=g12) d2.ty po eb;obtain⟨nb,en,hn⟩:=aER (d:=b) (γ:=GL s c k (some (I J)) (some (tr vs)) (some (.c w)) g6 g7 g8 (some (.d d)) (some (.d (.list [.int 2,.int (qS J d)]))) (some (.d b)) g12) (M:=M2++L12) (fun M=>rfl) ox;have a13:aZ xA (hName 12) (GL s c k (some (I J)) (some (tr vs)) (some (.c w)) g6 g7 g8 (some (.d d)) (some (.d (.list [.int 2,.int (qS J d)]))) (some (.d b)) g12) (M2++L12)=some (.nx (GL s c k (some (I J)) (some (tr vs)) (some (.c w)) g6 g7 g8 (some (.d d)) (some (.d (.list [.int 2,.int (qS J d)]))) (some (.d b)) (some (B nb))),M2++L12):=tG en;obtain⟨L14,a14⟩:=OU (x:=b) (y:=.int 0) (z:=.int 1) (fa:=aB (aD 11) (aB (fC (.int 0)) (aB (fC (.int 1)) aG))) (e:=pT) (γ:=GL s c k (some (I J)) (some (tr vs)) (some (.c w)) g6 g7 g8 (some (.d d)) (some (.d (.list [.int 2,.int (qS J d)]))) (some (.d b)) (some (B nb))) (M:=M2++L12) (nb:=nb) (fun M=>rfl) rfl (fun h M'=>by rw[(DN (hn h)).1,(DN (z:=.int 1) (hn h)).2];exact SY _ _);obtain⟨L15,a15⟩:=OU (x:=b) (y:=.none) (z:=.str "x") (fa:=aB (aD 11) (aB (fC .none) (aB (fC (.str "x")) aG))) (e:=qJ) (γ:=GL s c k (some (I J)) (some (tr vs)) (some (.c w)) g6 g7 g8 (some (.d d)) (some (.d (.list [.int 2,.int (qS J d)]))) (some (.d b)) (some (B nb))) (M:=M2++L12++L14) (nb:=nb) (fun M=>rfl) rfl (fun h M'=>by rw[(DN (hn h)).1,(DN (z:=.int 1) (hn h)).2];exact TB _ _);refine⟨M2++L12++L14++L15,some (.d d),some (.d (.list [.int 2,.int (qS J d)])),some (.d b),some (B nb),?_,d3.app.app.app⟩;rw[bF a6,bF a7,bF a8,bF a9,bF a10,bF a11,bF a12,bF a13,bF a14];exact a15
theorem DM{s:CD}{k:Option CD}{g4 g5 g6 g7 g8 g9 g10 g11 g12:Option CD}(h0:0<n)(h40:n<=40)(hd:Dk M c (n-1+(m+3))):
 ∃M' g4' g5' g6' g7' g8' g9' g10' g11' g12',aDl (GL s c k (some (I n)) g4 g5 g6 g7 g8 g9 g10 g11 g12) M=some (.nx (GL s c k (some (I n)) g4' g5' g6' g7' g8' g9' g10' g11' g12'),M')/\Dk M' c m:=by
 obtain⟨us,vs,M1,e1,d1,ul,hR,hp,hv⟩:=aBW hd h0 h40;have tb:=NH h0 ul hR hp hv;have am:∀t∈vs,Am t.a t.b:=fun t ht=>hR.am t (hp.mem_iff.mp ht);have vl:vs.length=n-1:=by rw[hp.length_eq];exact ul
 have dl:(vs.map rD).length+1=n:=by rw[A2];omega
 have hx:eT (.tuple (vs.map rD))=true:=by
  unfold eT;show(decide ((vs.map rD).length+1<=40)&&eN ((vs.map rD).length+1) (.tuple (vs.map rD)))=true;rw[dl,tb,B1 h40];rfl
 have lx:lnD (.tuple (vs.map rD))=(n:Int)-1:=by
  show(((vs.map rD).length:Nat):Int)=_;omega
 obtain⟨us',ht'⟩:=Tr.of h0 h40 tb
 have eu:us'=vs.map Tie.key:=by
  obtain⟨ds,i1,i2,i3⟩:=ht'.it;cases i1
  have jn:∀t∈us,0<t.j/\t.j<n:=fun t ht=>by
   have:t.j∈us.map Tie.j:=List.mem_map.mpr ⟨t,ht,rfl⟩;rw[hR.js]at this;obtain⟨q,hq,e⟩:=List.mem_map.mp this;have:=List.mem_range.mp hq;omega
  rw[yO (fun t ht=>⟨hR.is t (hp.mem_iff.mp ht),(jn t (hp.mem_iff.mp ht)).2,am t ht⟩)]at i3;exact(D5 i3).symm
 subst eu;have hT:=aGM vs
 have dp:dpB 6 (.tuple (vs.map rD))=true:=by
  have:okX (.tuple (vs.map rD))=true:=rN (fun x hx=>by
   obtain⟨t,ht,rfl⟩:=List.mem_map.mp hx;exact(am t ht).ok) (by rw[A2];omega)
  unfold okX at this;rw[B3,B3]at this;exact this.1.1
 obtain⟨z,M2,po,d2,_⟩:=d1.pop;have z0:=O2 z (show(n:Int)≠0 by omega);have z1:=J4 z (show(0:Int)<n by omega);obtain⟨L3,r1⟩:=QF (i:=z % (n:Int)) (M:=M2) hx hT ht' dp ⟨z0,z1⟩;obtain⟨L4,r2⟩:=QF (i:=0) (M:=M2++L3) hx hT ht' dp ⟨by omega,by omega⟩;obtain⟨L5,w,hw⟩:=QT (f:=0) (M2++L3++L4) hT ht' ⟨by omega,by omega⟩;obtain⟨L6,b6,b7,b8,lp⟩:=DO (c:=c) (s:=s) (kk:=k) (g9:=g9) (g10:=g10) (g11:=g11) (g12:=g12) hx ht' h0 dp (n-1) 0 (M2++L3++L4++L5) g6 g7 g8 hw (by decide) (by omega);have a2:=st2 (s:=s) (k:=k) (g4:=g4) (g5:=g5) (g6:=g6) (g7:=g7) (g8:=g8) (g9:=g9) (g10:=g10) (g11:=g11) (g12:=g12) e1;have a3:=st3 (s:=s) (k:=k) (g5:=g5) (g6:=g6) (g7:=g7) (g8:=g8) (g9:=g9) (g10:=g10) (g11:=g11) (g12:=g12) d1.ty po (dQ (by omega)) r1 r2;have a4:=st4 (s:=s) (c:=c) (k:=k) (J:=(n:Int)) (g5:=g5) (g6:=g6) (g7:=g7) (g8:=g8) (g9:=g9) (g10:=g10) (g11:=g11) (g12:=g12) w
 have rg:cZ (aB (fOp sE (aD 3) (fC (.int 1))) aG) (GL s c k (some (I n)) (some (tr vs)) (some (.c (M2++L3++L4).length)) g6 g7 g8 g9 g10 g11 g12) (M2++L3++L4++L5)=some (fF 0 (n-1),M2++L3++L4++L5):=by
  have:=aCS (J:=(n:Int)) (s:=s) (c:=c) (k:=k) (g4:=some (tr vs)) (g5:=some (.c (M2++L3++L4).length)) (g6:=g6) (g7:=g7) (g8:=g8) (g9:=g9) (g10:=g10) (g11:=g11) (g12:=g12) (M:=M2++L3++L4++L5) (kL (by omega) (by omega));rw[show((n:Int)-1).toNat=n-1 by omega]at this;exact this
 have a5:=nH rg lp;obtain⟨M',c9,c10,c11,c12,tt,dk⟩:=RQ (s:=s) (k:=k) (w:=(M2++L3++L4).length) (g6:=b6) (g7:=b7) (g8:=b8) (g9:=g9) (g10:=g10) (g11:=g11) (g12:=g12) (J:=(n:Int)) (m:=m) (M:=M2++L3++L4++L5++L6) (by omega) (by omega) hx lx am (by omega) (d2.app.app.app.app);refine⟨M',some (tr vs),some (.c (M2++L3++L4).length),b6,b7,b8,c9,c10,c11,c12,?_,dk⟩;unfold aDl;rw[bF a2,bF a3,bF a4,bF a5];exact tt
theorem BG{s:CD}{cost:Nat}{k:Int}{g3 g4 g5 g6 g7 g8 g9 g10 g11 g12:Option CD}(hk:cost=if k=2 then 43 else 12)(hd:Dk M c (m+cost)):
 ∃m' M' g3' g4' g5' g6' g7' g8' g9' g10' g11' g12',vC (GL s c (some (I k)) g3 g4 g5 g6 g7 g8 g9 g10 g11 g12) M=some (.nx (GL s c (some (I k)) g3' g4' g5' g6' g7' g8' g9' g10' g11' g12'),M')/\Dk M' c m'/\m<=m':=by
 have c1:∃q,m+cost=q+1:=⟨m+cost-1,by split at hk<;>omega⟩;obtain⟨q,hq⟩:=c1;rw[hq]at hd;obtain⟨z,M1,po,d1,o1⟩:=hd.pop;have mk:hX z 9=true:=dQ (by decide);have s2:(2:Nat)<=sizeLine:=by decide
 have ad:cC (I 1) (I (z % 9)) M1=some (I (1+z % 9),M1):=rfl;have z0:=O2 z (show(9:Int)≠0 by decide);have z9:=J4 z (show(0:Int)<9 by decide);by_cases h2:k=2
 .rw[A3 h2]at hk;have e2:(k==2)=true:=beq_iff_eq.mpr h2;have ii:lM [.d (.bool true)] M1=some (I 1,M1):=rfl;have x1:∀a b:PyData,ixF (.d (.list [a,b])) (I 1) M1=some (.d b,M1):=fun a b=>rfl;obtain⟨M',b4,b5,b6,b7,b8,b9,b10,b11,b12,h,d2⟩:=DM (s:=s) (c:=c) (n:=40) (m:=m) (k:=some (I k)) (g4:=g4) (g5:=g5) (g6:=g6) (g7:=g7) (g8:=g8) (g9:=g9) (g10:=g10) (g11:=g11) (g12:=g12) (M:=M1) (by decide) (by decide) (by rw[show 40-1+(m+3)=q by omega];exact d1);refine⟨m,M',some (I 40),b4,b5,b6,b7,b8,b9,b10,b11,b12,?_,d2,A6 _⟩
  have a1:aZ (fOp ixF (fP (aB (fOp cC (fC (.int 1)) (fOp gN (bU "list" jD (aD 1) aG) (fC (.int 9)))) (aB (fC (.int 40)) aG))) (aK lM (aB (fOp (eqX false) (aD 2) (fC (.int 2))) aG))) (hName 3) (GL s c (some (I k)) g3 g4 g5 g6 g7 g8 g9 g10 g11 g12) M=some (.nx (GL s c (some (I k)) (some (I 40)) g4 g5 g6 g7 g8 g9 g10 g11 g12),M1):=by
   simp![bU,hd.ty,po,mk,ad,s2,gZ,e2,ii,x1]
  unfold vC;rw[bF a1];exact h
 .rw[A7 h2]at hk;have e2:(k==2)=false:=beq_eq_false_iff_ne.mpr h2;have ii:lM [.d (.bool false)] M1=some (I 0,M1):=rfl;have x1:∀a b:PyData,ixF (.d (.list [a,b])) (I 0) M1=some (.d a,M1):=fun a b=>rfl;obtain⟨n,n0,n9,en⟩:∃n:Nat,0<n/\n<=9/\1+z % 9=(n:Nat):=⟨(1+z % 9).toNat,by omega,by omega,by omega⟩;obtain⟨M',b4,b5,b6,b7,b8,b9,b10,b11,b12,h,d2⟩:=DM (s:=s) (c:=c) (n:=n) (m:=q-(n-1)-3) (k:=some (I k)) (g4:=g4) (g5:=g5) (g6:=g6) (g7:=g7) (g8:=g8) (g9:=g9) (g10:=g10) (g11:=g11) (g12:=g12) (M:=M1) n0 (by omega) (by rw[show n-1+(q-(n-1)-3+3)=q by omega];exact d1);refine⟨q-(n-1)-3,M',some (I n),b4,b5,b6,b7,b8,b9,b10,b11,b12,?_,d2,by omega⟩;rw[<- en]at h ⊢
  have a1:aZ (fOp ixF (fP (aB (fOp cC (fC (.int 1)) (fOp gN (bU "list" jD (aD 1) aG) (fC (.int 9)))) (aB (fC (.int 40)) aG))) (aK lM (aB (fOp (eqX false) (aD 2) (fC (.int 2))) aG))) (hName 3) (GL s c (some (I k)) g3 g4 g5 g6 g7 g8 g9 g10 g11 g12) M=some (.nx (GL s c (some (I k)) (some (I (1+z % 9))) g4 g5 g6 g7 g8 g9 g10 g11 g12),M1):=by
   simp![bU,hd.ty,po,mk,ad,s2,gZ,e2,ii,x1]
  unfold vC;rw[bF a1];exact h
theorem PL(M:Sto):∀(q:Nat)(lo:Int)(g:Option CD),∃ds:List PyData,ds.length=q/\lcF (hName 0) jH (bL (aB (aD 0) (aB (fOp cC (aD 0) (fC (.int 1))) (aB GN aG)))) (fF lo q) [g] M=some (ds.map .d,M)
 |0=>fun lo g=>⟨[],rfl,rfl⟩
 |q+1=>fun lo g=>by
  obtain⟨ds,h1,h2⟩:=PL M q (lo+1) (some (I lo));refine⟨.tuple [.int lo,.int (lo+1),.tuple [.int 1,.int 1]]::ds,by rw[D0,h1],?_⟩;rw[jF];unfold lcF;rw[show hName 0 (I lo) [g] M=some ([some (I lo)],M)from rfl,A0];dsimp only;rw[show jH [some (I lo)] M=some (true,M)from rfl,A0];dsimp only;rw[A3 rfl,show(bL (aB (aD 0) (aB (fOp cC (aD 0) (fC (.int 1))) (aB GN aG)))) [some (I lo)] M=some (.d (.tuple [.int lo,.int (lo+1),.tuple [.int 1,.int 1]]),M)from rfl,A0];dsimp only;rw[h2];rfl
theorem aEw(M:Sto):∃ds:List PyData,ds.length=40/\yT γ M=some (.d (.list ds),M):=by
 obtain⟨ds,h1,h2⟩:=PL M 40 0 none;refine⟨ds,h1,?_⟩;unfold yT;exact tP (show cZ (aB (fC (.int 40)) aG) γ M=some (fF 0 40,M)from rfl) (sz (by rw[yJ];decide)) h2 (sz (by omega))
noncomputable abbrev aAm:PyData:=.list [(.tuple [(.int 0),(.int 1),(.tuple [(.int 1),(.int 1)])])]
theorem ID:eT aAm=true:=by decide +kernel
theorem ZI:∃us,Tr 2 aAm us/\us=[(0,1)]:=by
 obtain⟨us,h⟩:=Tr.of (n:=2) (x:=aAm) (by decide) (by decide) (by decide +kernel);refine⟨us,h,?_⟩;obtain⟨ds,h1,h2,h3⟩:=h.it;cases h1;have e:bI (2:Nat) (.tuple [(.int 0),(.int 1),(.tuple [(.int 1),(.int 1)])])=some (0,1):=by decide +kernel
 rw[U0,e]at h3;exact(D5 h3).symm
theorem aCb(M:Sto):∃L,cV [.d aAm,I 1,I 0] M=some (.v (.d (wD [0])),M++L):=by
 obtain⟨us,h,eu⟩:=ZI;obtain⟨U,L,e,w,nd⟩:=FD (M:=M) ID h (i:=1) (j:=0) ⟨by decide,by decide⟩ ⟨by decide,by decide⟩ (by decide);obtain⟨ss,R⟩:=h.root (p:=0) ⟨by decide,by decide⟩;have:U=[0]:=R.uniq w nd ⟨0,⟨0,(0,1),by rw[eu];rfl,rfl,.inr ⟨rfl,rfl⟩⟩,rfl⟩ (by simp);exact⟨L,by rw[e,this]⟩
theorem WU(M:Sto):∃L,bQ [.d aAm,I 0] M=some (.v (.d (wD [1])),M++L):=by
 obtain⟨us,h,eu⟩:=ZI;obtain⟨bs,L,e,b1,b2⟩:=yN (k:=0) (M:=M) ID h (by decide) (by decide +kernel);obtain⟨ss,R⟩:=h.root (p:=0) ⟨by decide,by decide⟩
 have:pK bs=[1]:=rS (oE bs) (List.pairwise_singleton _ _) ((tI bs).trans ((List.perm_ext_iff_of_nodup b1 (by simp)).mpr fun p=>by
  rw[b2,D2];constructor
  .rintro⟨⟨p0,p1⟩,q⟩;by_cases z:p=0
   .subst z;exact absurd q R.beh0
   .omega
  .rintro rfl;exact⟨⟨by decide,by decide⟩,[0],⟨0,⟨0,(0,1),by rw[eu];rfl,rfl,.inr ⟨rfl,rfl⟩⟩,rfl⟩,by simp,List.mem_singleton.mpr rfl⟩))
 exact⟨L,by rw[e,this]⟩
theorem main(ns:List Int)(hl:ns.length<=63):∃M',F_law [.d (.list (ns.map .int))] []=some (.d (.bool true),M'):=by
 obtain⟨c,M0,e0,d0⟩:=aEG ns;let s:CD:=.d (.list (ns.map .int));obtain⟨ds,dl,el⟩:=aEw (γ:=GL s c none none none none none none none none none none none) M0
 have tb:eT (.tuple ds)=false:=by
  unfold eT;show(decide (ds.length+1<=40)&&eN (ds.length+1) (.tuple ds))=false;rw[dl];rfl
 have tv:dN [.d (.list ds)] M0=some (.d (.tuple ds),M0):=rfl;obtain⟨L1,a2⟩:=FG (x:=.tuple ds) (y:=.int 0) (z:=.int 1) (fa:=aB (aK dN (aB yT aG)) (aB (fC (.int 0)) (aB (fC (.int 1)) aG))) (e:=HC) (γ:=GL s c none none none none none none none none none none none) (M:=M0) (by simp only[aB,aK,aG,fC,el,tv,Option.bind_some]) (fun M'=>by rw[(DN tb).1,(DN (z:=.int 1) tb).2];exact YV _ _);obtain⟨L2,w1⟩:=aCb (M0++L1);obtain⟨L3,w2⟩:=WU (M0++L1++L2)
 have a3:sIf (gOr (gB (fOp (eqX true) (iM cV (aB HX (aB (fC (.int 1)) (aB (fC (.int 0)) aG)))) HP)) (gB (fOp (eqX true) (iM bQ (aB FY (aB (fC (.int 0)) aG))) FC))) (bK (fC (.bool false))) bC (GL s c none none none none none none none none none none none) (M0++L1)=some (.nx (GL s c none none none none none none none none none none none),M0++L1++L2++L3):=by
  have n1:eqX true (.d (wD [0])) (.d (.tuple [(.int 0)])) (M0++L1++L2)=some (B false,M0++L1++L2):=rfl;have n2:eqX true (.d (wD [1])) (.d (.tuple [(.int 1)])) (M0++L1++L2++L3)=some (B false,M0++L1++L2++L3):=rfl;simp![WB,YU,WR,VU,w1,n1,w2,n2]
 obtain⟨m1,M1,a3',a4,a5,a6,a7,a8,a9,a10,a11,a12,u1,f1,l1⟩:=BG (s:=s) (k:=0) (m:=98) (g3:=none) (g4:=none) (g5:=none) (g6:=none) (g7:=none) (g8:=none) (g9:=none) (g10:=none) (g11:=none) (g12:=none) rfl (show Dk (M0++L1++L2++L3) c (98+12)from d0.app.app.app);obtain⟨q1,hq1⟩:∃q,m1=q+12/\86<=q:=⟨m1-12,by omega,by omega⟩;rw[hq1.1]at f1;obtain⟨m2,M2,b3,b4,b5,b6,b7,b8,b9,b10,b11,b12,u2,f2,l2⟩:=BG (s:=s) (k:=1) (m:=q1) (g3:=a3') (g4:=a4) (g5:=a5) (g6:=a6) (g7:=a7) (g8:=a8) (g9:=a9) (g10:=a10) (g11:=a11) (g12:=a12) rfl f1;obtain⟨q2,hq2⟩:∃q,m2=q+43:=⟨m2-43,by omega⟩;rw[hq2]at f2;obtain⟨m3,M3,c3,c4,c5,c6,c7,c8,c9,c10,c11,c12,u3,f3,l3⟩:=BG (s:=s) (k:=2) (m:=q2) (g3:=b3) (g4:=b4) (g5:=b5) (g6:=b6) (g7:=b7) (g8:=b8) (g9:=b9) (g10:=b10) (g11:=b11) (g12:=b12) rfl f2;refine⟨M3,xH rfl ?_⟩
 have a1:aZ (aK lU (aB (aD 0) (aB (fC (.int 110)) aG))) (hName 1) [some s,none,none,none,none,none,none,none,none,none,none,none,none] []=some (.nx (GL s c none none none none none none none none none none none),M0):=by
  simp![s,e0]
 have lp:iI (hName 2) vC [I 0,I 1,I 2] (GL s c none none none none none none none none none none none) (M0++L1++L2++L3)=some (.nx (GL s c (some (I 2)) c3 c4 c5 c6 c7 c8 c9 c10 c11 c12),M3):=by
  rw[eQ (show hName 2 (I 0) (GL s c none none none none none none none none none none none) _=some (GL s c (some (I 0)) none none none none none none none none none none,M0++L1++L2++L3)from rfl) u1];rw[eQ (show hName 2 (I 1) (GL s c (some (I 0)) a3' a4 a5 a6 a7 a8 a9 a10 a11 a12) _=some (GL s c (some (I 1)) a3' a4 a5 a6 a7 a8 a9 a10 a11 a12,M1)from rfl) u2];rw[eQ (show hName 2 (I 2) (GL s c (some (I 1)) b3 b4 b5 b6 b7 b8 b9 b10 b11 b12) _=some (GL s c (some (I 2)) b3 b4 b5 b6 b7 b8 b9 b10 b11 b12,M2)from rfl) u3];rfl
 have rg:cZ (aB (fC (.int 3)) aG) (GL s c none none none none none none none none none none none) (M0++L1++L2++L3)=some ([I 0,I 1,I 2],M0++L1++L2++L3):=rfl;have sf:=nH rg lp;unfold aAA;show aO _ _ [some s,none,none,none,none,none,none,none,none,none,none,none,none] []=_;rw[bF a1,bF a2,bF a3,bF sf];rfl
end Q23
end
end
open PySem PySem.W PyProof.Rows
set_option maxRecDepth 100000 in
set_option maxHeartbeats 0 in
theorem PySem.Challenge.cw_cutstree_k23_tree_ways_holds : PySem.Challenge.rw_cutstree_k23_tree_ways.Holds := by
 refine Q23.k_top ?_
 k_fill
 refine L2.law_walk (l:=PySem.Challenge.rw_cutstree_k23_tree_ways) (F:=Q23.F_law) (k:=9) (p:="_law_script") (by decide +kernel) rfl rfl ⟨fun _=>rfl,by decide,by decide,rfl⟩ (fun w h Y=>PySem.W.kIn_of Y) ?T Q23.main
 case T=>
  intro w mg h KX G;refine Q23.fn_law (K:=_) (mg:=mg) ?TT
  refine' Q23.txt_mk KX G ?v0 ?v1 ?v2 ?v3 ?v4 ?v5 ?v6 ?v7 ?v8 ?v9 ?v10 ?v11 ?v12 ?v13 ?v14 ?v15 ?v16 ?v17 ?v18 ?v19 ?v20 ?v21 ?v22 ?v23 ?v24 ?v25 ?v26 ?v27 ?v28 ?v29 ?v30 ?v31 ?v32 ?v33 ?v34 ?v35 ?v36 ?v37 ?v38 ?v39 ?v40 ?v41 ?v42 ?v43 ?v44 ?v45 ?v46 ?v47 ?v48 ?v49 ?v50 ?v51 ?v52 ?v53 ?v54 ?v55 ?v56 ?v57 ?v58 ?v59 ?v60 ?v61 ?v62 ?v63 ?v64 ?v65 ?v66 ?v67 ?v68 ?v69 ?v70 ?v71 ?v72 ?v73 ?v74 ?v75 ?v76
  (case v0|v1|v2|v3|v4|v5|v6|v7|v8|v9|v10|v11|v12|v13|v15|v19|v20|v21|v23|v24|v25|v26|v27|v28|v29|v31|v32|v33|v34|v37=>k_is)
  (case v14|v16|v17|v18|v22|v30|v35|v36|v38|v39|v40|v41|v42|v43=>kernel_rfl)
  (case v44|v45|v46|v47|v48|v49|v50|v51|v52|v53|v54|v55|v56|v57|v58|v59|v60|v61|v62|v63|v64|v65|v66|v67|v68|v69|v70|v71|v72|v73|v74|v75|v76=>exact L2.def_mk KX G (by k_is) (by k_is) (by k_is) (by k_is))