import PyProof.Rows.All
import OpenK.KLine
import OpenK.KWalk
import OpenK.KMore
import OpenK.KOwn
import OpenK.KRaise
import KE.KSortTup
import KE.KIsAll
import KE.KTryMore
import KE.KItemsList
import KE.KDictOf
import PyProof.EqAt
import PyProof.EqKinds
import PyProof.TupleCall
import PyProof.ReprLen
import PyProof.ExcArgsOwn
import PyProof.NsDelKeeps
import PyProof.InstStoreFacts
import PyProof.ExcInit
import PyProof.ExcClass2
import PyProof.Rows.ListMul
import PyProof.Draws
import PyProof.EnumMake
import PyProof.Rows.EnumRows
import PyProof.DictCompW
import PyProof.ListRange
import PyProof.ZipIter
import PyProof.AttrMissHeap
import PySem.Challenge.RW_cutstree_k06_changed
set_option Elab.async false
section
set_option maxRecDepth 100000
set_option maxHeartbeats 0
namespace Q6
open PySem
noncomputable def qv:Program:={ PySem.Challenge.rw_cutstree_k06_changed.prog with main:={ PySem.Challenge.rw_cutstree_k06_changed.prog.main with body:=((((((PySem.Challenge.rw_cutstree_k06_changed.prog.main.body.eraseIdx 30).eraseIdx 27).eraseIdx 22).eraseIdx 15).eraseIdx 7).eraseIdx 0) } }
end Q6
open PySem PySem.W PyProof.Rows
local macro_rules | `(tactic| o_head $H) => `(tactic| (
 refine holds_open (r:=PySem.Challenge.rw_cutstree_k06_changed.row) (q:=Q6.qv) (loose:=[]) (Xt:=fun s=>xlAt Q6.qv [] s&&recOk (RowW.records (OpenRow.toRowW PySem.Challenge.rw_cutstree_k06_changed.row)) s) (XP:=XL Q6.qv []) (Yf:=Hook.obs $H) (Ya:=Hook.val $H) (YP:=Hook.says $H) (N:=6100) ?hl (Hook.of $H) (Hook.keeps $H) (fun s e=>xl_of s (Bool.and_eq_true_iff.mp e).1) XL.keeps (by rfl) (by rfl) (by rfl) (fun s e=>recFacts_of (Bool.and_eq_true_iff.mp e).2) (by rfl) (by first|assumption|decide +kernel) (by decide +kernel) ⟨rfl,rfl,rfl,rfl,rfl,by decide +kernel⟩ ?hw ?hc
 (case hl=>intro w;kernel_rfl)))
open_top Q6.k_top for PySem.Challenge.rw_cutstree_k06_changed
end
section
set_option linter.all false
set_option maxRecDepth 100000
set_option maxHeartbeats 4000000
noncomputable abbrev Fg:=PySem.W.Frag
abbrev A0:=@PySem.wpAny_bind
abbrev A1:=@Option.bind_some
abbrev A2:=@PySem.Heap.get?_push_of_some
abbrev A3:=@PySem.wpAny_pure
abbrev A4:=@if_pos
abbrev A5:=@if_neg
abbrev A6:=@Bool.false_ne_true
abbrev A7:=@Nat.le_refl
abbrev A8:=@PySem.Heap.lt_size
abbrev A9:=@List.length_map
abbrev B0:=@PySem.Heap.get?_push_size
abbrev B1:=@List.getElem?_eq_getElem
abbrev B2:=@List.length_append
abbrev B3:=@Bool.and_eq_true
abbrev B4:=@List.mem_cons_of_mem
abbrev B5:=@List.mem_cons_self
abbrev B6:=@Nat.ne_of_lt
abbrev B7:=@Nat.lt_of_lt_of_le
abbrev B8:=@decide_eq_false
abbrev B9:=@List.mem_append_right
abbrev C0:=@List.getD_eq_getElem?_getD
abbrev C1:=@List.append_assoc
abbrev C2:=@of_decide_eq_true
abbrev C3:=@List.map_cons
abbrev C4:=@decide_eq_true
abbrev C5:=@List.size_toArray
abbrev C6:=@List.append_nil
abbrev C7:=@List.length_cons
abbrev C8:=@List.lookup_cons
abbrev C9:=@PySem.wpAny_newObj_type
abbrev D0:=@PySem.wpAny_mono
abbrev D1:=@PySem.W.mg_none_of
abbrev D2:=@Option.some.inj
abbrev D3:=@Nat.le_trans
abbrev D4:=@PySem.wpAny_holding
abbrev D5:=@PySem.sizeLine_eq
abbrev D6:=@List.getElem?_map
abbrev D7:=@List.getElem?_set_ne
abbrev D8:=@List.map_append
abbrev D9:=@PySem.Heap.get?_update_other
abbrev E1:=@List.getElem?_set_self
abbrev E2:=@Array.getD_eq_getD_getElem?
abbrev E3:=@Nat.zero_le
abbrev E4:=@PySem.mem_of_lookup
abbrev E5:=@PySem.wpAny_field
abbrev E6:=@List.mem_append_left
abbrev E7:=@of_decide_eq_false
abbrev E8:=@List.length_filter_le
abbrev E9:=@PySem.Heap.get?_update_self
abbrev F0:=@Ne.symm
abbrev F4:=@List.getElem?_append_right
abbrev F5:=@Nat.lt_succ_self
abbrev F6:=@List.getElem?_append_left
abbrev F7:=@PySem.wpAny_call_entry
abbrev F8:=@Nat.lt_irrefl
abbrev F9:=@Nat.ne_of_gt
abbrev I0:=@Int.emod_lt_of_pos
abbrev J0:=@List.mem_map_of_mem
abbrev J1:=@List.drop_eq_getElem_cons
abbrev J2:=@PySem.wpAny_truthy_bool
abbrev J3:=@PySem.W.mg_of
abbrev J4:=@PySem.wpAny_Call_Name_kw
abbrev J5:=@PySem.Obj.data_mapFields
abbrev J6:=@Int.emod_nonneg
abbrev J7:=@PySem.wpAny_callSpecial?_slot
abbrev J8:=@List.getElem_mem
abbrev J9:=@PySem.W.Looks.here
abbrev L4:=@Nat.lt_of_le_of_lt
abbrev L7:=@List.length_nil
abbrev L8:=@List.any_cons
abbrev L9:=@PyProof.Rows.slot_tuple_getitem
abbrev O0:=@PySem.W.callWith_K
abbrev O1:=@Nat.lt_trans
abbrev O2:=@PySem.Heap.size_push
abbrev O3:=@PySem.wpAny_setField
abbrev O4:=@List.nodup_append
abbrev O5:=@PySem.wpAny_setField_rec
abbrev O6:=@congrArg
abbrev O7:=@PySem.wpAny_passesOwn
abbrev O8:=@PySem.W.looks_findIn
abbrev O9:=@PySem.PassesOwn.never
abbrev S0:=@PySem.wpAny_standAt
abbrev S1:=@Nat.le_of_lt
abbrev S2:=@List.drop_length
abbrev S3:=@List.map_map
abbrev S4:=@PySem.F.plain_extend_loop
abbrev S5:=@Array.length_toList
abbrev S6:=@PySem.Heap.get?_none_of_le
abbrev S7:=@PySem.F.slot_tuple_iterator_next
abbrev S8:=@PySem.Around.under_plainId
abbrev S9:=@Bool.eq_iff_iff
abbrev U0:=@List.nil_append
abbrev U1:=@PySem.codeAny_mono
abbrev U2:=@List.filter_cons_of_pos
abbrev U3:=@List.filter_cons_of_neg
abbrev U4:=@PySem.Heap.get?_update_ne
abbrev U5:=@PySem.Heap.SameBut.update
abbrev U6:=@Int.toNat_natCast
abbrev U7:=@Nat.sub_self
abbrev U8:=@PySem.wpAny_loadPart'
abbrev U9:=@Array.getElem?_toList
abbrev Y0:=@List.set_append_right
abbrev Y1:=@List.length_take
abbrev Y2:=@List.length_drop
abbrev Y3:=@PySem.wpAny_typeOf
abbrev Y4:=@Nat.pow_le_pow_right
abbrev Y5:=@Nat.add_le_add_right
abbrev Y6:=@List.length_set
abbrev Y7:=@PyProof.Rows.get?_update_seq
abbrev Y8:=@PySem.Obj.isFreed_of_fields
abbrev Y9:=@beq_eq_false_iff_ne
abbrev Z0:=@Int.toNat_of_nonneg
abbrev Z1:=@List.map_congr_left
abbrev Z2:=@PyProof.Rows.callWith_type1
abbrev Z3:=@PySem.wpAny_typeNameOfWhole_itemiter
abbrev Z4:=@PySem.Paired.length
abbrev Z5:=@PySem.plainId_quiet
abbrev Z6:=@PySem.PyData.eqvAll.eq_def
abbrev Z7:=@PySem.wpAny_typeNameOfWhole_keyiter
abbrev Z8:=@PySem.wpAny_execs_nil
abbrev Z9:=@PySem.codeAny_builtin
abbrev A0a:=@PySem.Calls.spliced_cons
abbrev A0b:=@PySem.wpAny_call
abbrev A0c:=@PySem.tupleKind_room_in1
abbrev A0d:=@PySem.wpAny_pyIter_tuple
namespace L2
variable{H:Hp}{s:Shared}{σ:St}{A:Around}{K:Fg}{pos:Pos}
open PySem PySem.Spec PyProof.Rows
noncomputable abbrev Key:=Sum Int Str
noncomputable def BO:Key->Value->Bool
 |.inl k,v=>Value.isInt k v
 |.inr x,v=>Value.isStrOf x v
noncomputable def aIT(w:World):Key->Int
 |.inl k=>hashInt k
 |.inr x=>hashStr w x
theorem cU:∀{k:Key}{v:Value},BO k v=true->(∃i t,k=Sum.inl i/\v=Value.int i t)\/(∃x t,k=Sum.inr x/\v=Value.str x t)
 |.inl i,v=>fun h=>by
  obtain⟨t,e⟩:=Value.isInt_shape (k:=i) (v:=v) h;exact .inl ⟨i,t,rfl,e⟩
 |.inr x,v=>fun h=>by
  obtain⟨t,e⟩:=Value.isStrOf_shape (x:=x) (v:=v) h;exact .inr ⟨x,t,rfl,e⟩
theorem SW(i:Int)(t:Tok):BO (.inl i) (.int i t)=true:=by simp[BO,Value.isInt]
theorem TL(x:Str)(t:Tok):BO (.inr x) (.str x t)=true:=by simp[BO,Value.isStrOf]
theorem aEV(a b:Int):decide ((Sum.inl a:Key)=Sum.inl b)=(a==b):=by
 by_cases e:a=b
 .subst e;simp
 .have h:¬(Sum.inl a:Key)=Sum.inl b:=fun q=>e (Sum.inl.inj q);rw[B8 h];exact(beq_eq_false_iff_ne.mpr e).symm
theorem aEv(a b:Str):decide ((Sum.inr a:Key)=Sum.inr b)=decide (a=b):=by
 by_cases e:a=b
 .subst e;simp
 .have h:¬(Sum.inr a:Key)=Sum.inr b:=fun q=>e (Sum.inr.inj q);rw[B8 h,B8 e]
theorem aFI(a:Int)(b:Str):decide ((Sum.inl a:Key)=Sum.inr b)=false:=B8 (fun q=>nomatch q)
theorem aED(a:Str)(b:Int):decide ((Sum.inr a:Key)=Sum.inl b)=false:=B8 (fun q=>nomatch q)
noncomputable def cS(prog:Program)(w:World):PySem.KeyKind prog w Key where
 is:=BO
 hash:=aIT w
 inj:=fun v a b ha hb=>by
  rcases cU ha with⟨i,t,rfl,rfl⟩|⟨x,t,rfl,rfl⟩
  .rcases cU hb with⟨j,u,rfl,e⟩|⟨y,u,rfl,e⟩
   .injection e with e1 _;rw[e1]
   .exact nomatch e
  .rcases cU hb with⟨j,u,rfl,e⟩|⟨y,u,rfl,e⟩
   .exact nomatch e
   .injection e with e1 _;rw[e1]
 byValue:=fun k v h=>by
  rcases cU h with⟨i,t,rfl,rfl⟩|⟨x,t,rfl,rfl⟩<;>rfl
 pyHash:=fun hv h=>by
  rcases cU hv with⟨i,t,rfl,rfl⟩|⟨x,t,rfl,rfl⟩
  .exact wpAny_pyHash_int h
  .exact wpAny_pyHash_str h
 eqBool:=fun hu hv h=>by
  rcases cU hu with⟨i,t,rfl,rfl⟩|⟨x,t,rfl,rfl⟩
  .rcases cU hv with⟨j,u,rfl,rfl⟩|⟨y,u,rfl,rfl⟩
   .rw[aEV]at h;exact wpAny_eqBool_int h
   .rw[aFI]at h;exact SeqAt.EqAt.int_str i t y u _ _ _ _ h
  .rcases cU hv with⟨j,u,rfl,rfl⟩|⟨y,u,rfl,rfl⟩
   .rw[aED]at h;exact SeqAt.EqAt.str_int x t j u _ _ _ _ h
   .rw[aEv]at h;exact wpAny_eqBool_str h
 «strs»:=fun k x t v h=>by
  rcases cU h with⟨i,u,rfl,e⟩|⟨y,u,rfl,e⟩
  .exact nomatch e
  .injection e with e1 _
   subst e1;cases v<;>rfl
theorem JG(prog:Program)(w:World)(i:Int)(t:Tok):(cS prog w).is (.inl i) (.int i t)=true:=SW i t
theorem JS(prog:Program)(w:World)(x:Str)(t:Tok):(cS prog w).is (.inr x) (.str x t)=true:=TL x t
inductive V where
 |non|bl (b:Bool)|int (i:Int)|str (x:Str)|byt (b:Array UInt8)|flt (b:UInt64)|ref (a:Addr)|ty (n:String)
 deriving DecidableEq
noncomputable def RelV:V->Value->Prop
 |.non,u=>u=Value.none
 |.bl b,u=>u=Value.bool b
 |.int i,u=>∃t,u=Value.int i t
 |.str x,u=>∃t,u=Value.str x t
 |.byt b,u=>∃t,u=Value.bytes b t
 |.flt b,u=>∃t,u=Value.float b t
 |.ref a,u=>u=Value.ref a
 |.ty n,u=>u=Value.type n
noncomputable abbrev bC:List V->List Value->Prop:=Paired RelV
theorem bC.length{xs:List V}{us:List Value}(r:bC xs us):xs.length=us.length:=Z4 r
theorem bC.get:∀{xs:List V}{us:List Value}{i:Nat}{x:V},bC xs us->xs[i]?=some x->∃u,us[i]?=some u/\RelV x u
 |_,_,_,_,.nil=>fun e=>by simp at e
 |_,_,0,_,.cons r _=>fun e=>by simp at e;subst e;exact⟨_,rfl,r⟩
 |_,_,i+1,x,.cons _ t=>fun e=>by
  obtain⟨u,h1,h2⟩:=bC.get (i:=i) (x:=x) t (by simpa using e);exact⟨u,by simpa using h1,h2⟩
theorem bC.set{x:V}{u:Value}(r:RelV x u):∀{xs:List V}{us:List Value}(i:Nat),bC xs us->bC (xs.set i x) (us.set i u)
 |_,_,_,.nil=>.nil
 |_,_,0,.cons _ t=>.cons r t
 |_,_,i+1,.cons q t=>.cons q (bC.set r i t)
theorem bC.append:∀{xs ys:List V}{us ws:List Value},bC xs us->bC ys ws->bC (xs++ys) (us++ws)
 |_,_,_,_,.nil=>fun s=>s
 |_,_,_,_,.cons r t=>fun s=>.cons r (bC.append t s)
theorem bC.take:∀{xs:List V}{us:List Value}(n:Nat),bC xs us->bC (xs.take n) (us.take n)
 |_,_,0,_=>.nil
 |_,_,_+1,.nil=>.nil
 |_,_,n+1,.cons r t=>.cons r (bC.take n t)
theorem bC.drop:∀{xs:List V}{us:List Value}(n:Nat),bC xs us->bC (xs.drop n) (us.drop n)
 |_,_,0,r=>r
 |_,_,_+1,.nil=>.nil
 |_,_,n+1,.cons _ t=>bC.drop n t
noncomputable def nJ:Option V->Option Value->Prop
 |some v,some u=>RelV v u
 |none,none=>True
 |_,_=>False
noncomputable def KV{κ:Type}:List (κ×V)->List (κ×Value)->Prop:=Paired fun(p:κ×V)(q:κ×Value)=>p.1=q.1/\RelV p.2 q.2
noncomputable def kV:Key->V
 |.inl i=>.int i
 |.inr x=>.str x
inductive HO where
 |lst (xs:List V)
 |tup (xs:List V)
 |dK (kvs:List (Key×V))|dT (kvs:List (List Key×V))
 |set (S:Int->Bool) (n:Nat)
 |ins (C dx:Addr) (fs:List (Str×V))
 |own (x:Addr)
 |xd (fs:List (Str×V))
 |met (f x:Addr)
 |rng (lo hi:Int)
 |frz (o:Obj) (u:HO)
 |tbl (ps:Array Value)
 |ext (φ:Heap->Prop)
noncomputable abbrev Hp:=Addr->Option HO
noncomputable def upd(H:Hp)(a:Addr)(o:HO):Hp:=fun b=>if b=a then some o else H b
theorem aP{a:Addr}{o:HO}:upd H a o a=some o:=by unfold upd;rw[A4 rfl]
theorem aJ{a b:Addr}{o:HO}(h:b≠a):upd H a o b=H b:=by unfold upd;rw[A5 h]
theorem wD{a b:Addr}{o u:HO}(h:H a=some o)(h':H b=some u)(d:o≠u):a≠b:=by
 intro e;subst e;rw[h]at h';exact d (D2 h')
theorem aO{a b:Addr}{o:HO}(h:H a=some o)(h':H b=none):a≠b:=by
 intro e;subst e;rw[h]at h';cases h'
section
variable(P:Program)(w:World)
noncomputable def cK(H:Hp)(h:Heap)(a:Addr):HO->Prop
 |.lst xs=>xs.length<=sizeLine/\∃(its:List Value)(n:Nat),bC xs its/\h.get? a=some { cls:=.type "list",data:=.seq its.toArray n }
 |.tup xs=>xs.length<=sizeLine/\∃its:List Value,bC xs its/\IsTup h a its.toArray
 |.dK kvs=>kvs.length<=sizeLine/\(a==sysModules)=false/\∃vs,KV kvs vs/\h.DictOf (cS P w) a vs
 |.dT kvs=>kvs.length<=sizeLine/\(a==sysModules)=false/\∃xs:List (List Key×Addr×Value),
  Paired (fun(p:List Key×V)(q:List Key×Addr×Value)=>p.1=q.1/\H q.2.1=some (.tup (p.1.map kV))/\RelV p.2 q.2.2) kvs xs /\
  ∃o es ep,h.get? a=some o/\o.ExactDict/\o.data=.dict es ep/\es.toList=xs.map (entryOfKey (tupleKind (cS P w)))/\(xs.map (·.1)).Nodup
 |.set S n=>h.SetOf (intKind P w) a S n
 |.ins C dx fs=>H dx=some (.own a)/\fs.length<=1000/\dx≠a/\h.get? a=some (PySem.W.instObj C dx) /\
  ∃mA,h.Ns1 dx mA/\(∀f,nJ (fs.lookup f) (mA f))/\PySem.Within mA (fs.map (·.1))
 |.own _=>∃o,h.get? a=some o
 |.xd fs=>∃mA,h.Ns1 a mA/\∀f,nJ (fs.lookup f) (mA f)
 |.rng lo hi=>∃t u v,h.get? a=some { cls:=.type "range",data:=.fields #[.int lo t,.int hi u,.int 1 v] }
 |.frz o u=>h.get? a=some o/\cK H h a u
 |.tbl ps=>h.get? a=some { cls:=.none,data:=.fields ps }
 |.met f x=>h.get? a=some (PySem.W.methodObj (.ref f) (.ref x))
 |.ext φ=>φ h/\(∃o,h.get? a=some o)/\∀h1 h2:Heap,φ h1->(∀o,h1.get? a=some o->h2.get? a=some o)->φ h2
noncomputable def HOk(H:Hp)(h:Heap):Prop:=∀a o,H a=some o->cK P w H h a o
end
section
variable{P:Program}{w:World}{H H':Hp}{h h':Heap}{a:Addr}{o:HO}
theorem cK.lt(x:cK P w H h a o):a<h.objs.size:=by
 cases o with
 |lst xs=>obtain⟨_,_,_,_,e⟩:=x;exact A8 e
 |tup xs=>obtain⟨_,_,_,p⟩:=x;exact p.lt
 |dK kvs=>obtain⟨_,_,_,_,o,_,_,e,_⟩:=x;exact A8 e
 |dT kvs=>obtain⟨_,_,_,_,o,_,_,e,_⟩:=x;exact A8 e
 |set S n=>obtain⟨o,_,_,_,e,_⟩:=x;exact A8 e
 |ins C dx fs=>obtain⟨_,_,_,e,_⟩:=x;exact A8 e
 |own y=>obtain⟨_,e⟩:=x;exact A8 e
 |xd fs=>obtain⟨_,⟨_,_,_,e,_⟩,_⟩:=x;exact A8 e
 |rng lo hi=>obtain⟨_,_,_,e⟩:=x;exact A8 e
 |frz ob u=>obtain⟨e,_⟩:=x;exact A8 e
 |tbl ps=>exact A8 (show h.get? a=some _ from x)
 |met f y=>exact A8 (show h.get? a=some _ from x)
 |ext φ=>obtain⟨_,⟨_,e⟩,_⟩:=x;exact A8 e
theorem Paired.mapP{α β:Type}{F G:α->β->Prop}:∀{l₁:List α}{l₂:List β},Paired F l₁ l₂->(∀a b,F a b->G a b)->Paired G l₁ l₂
 |_,_,.nil=>fun _=>.nil
 |_,_,.cons r t=>fun f=>.cons (f _ _ r) (Paired.mapP t f)
theorem cK.stay(x:cK P w H h a o)(k:∀b u,(b=a\/H b=some (.own a))->h.get? b=some u->h'.get? b=some u)
 (ho:∀b,H b=some (.own a)->H' b=some (.own a)) (ht:∀b xs,H b=some (.tup xs)->H' b=some (.tup xs)):cK P w H' h' a o:=by
 induction o with
 |lst xs=>obtain⟨z,its,n,r,e⟩:=x;exact⟨z,its,n,r,k _ _ (.inl rfl) e⟩
 |tup xs=>obtain⟨z,its,r,ob,e,c⟩:=x;exact⟨z,its,r,ob,k _ _ (.inl rfl) e,c⟩
 |dK kvs=>obtain⟨z,y,vs,r,ob,es,ep,e,c⟩:=x;exact⟨z,y,vs,r,ob,es,ep,k _ _ (.inl rfl) e,c⟩
 |dT kvs=>
  obtain⟨z,y,xs,r,ob,es,ep,e,c⟩:=x;exact⟨z,y,xs,Paired.mapP r fun p q z=>⟨z.1,ht _ _ z.2.1,z.2.2⟩,ob,es,ep,k _ _ (.inl rfl) e,c⟩
 |set S n=>obtain⟨ob,es,ep,t,e,c⟩:=x;exact⟨ob,es,ep,t,k _ _ (.inl rfl) e,c⟩
 |ins C dx fs=>
  obtain⟨d,z,ne,e,mA,⟨od,es,ep,e2,c⟩,r⟩:=x;exact⟨ho _ d,z,ne,k _ _ (.inl rfl) e,mA,⟨od,es,ep,k _ _ (.inr d) e2,c⟩,r⟩
 |own y=>obtain⟨ob,e⟩:=x;exact⟨ob,k _ _ (.inl rfl) e⟩
 |xd fs=>obtain⟨mA,⟨od,es,ep,e,c⟩,r⟩:=x;exact⟨mA,⟨od,es,ep,k _ _ (.inl rfl) e,c⟩,r⟩
 |rng lo hi=>obtain⟨t,u,v,e⟩:=x;exact⟨t,u,v,k _ _ (.inl rfl) e⟩
 |frz ob u ih=>obtain⟨e,q⟩:=x;exact⟨k _ _ (.inl rfl) e,ih q⟩
 |tbl ps=>
  have e:h.get? a=some { cls:=.none,data:=.fields ps }:=x;show h'.get? a=some { cls:=.none,data:=.fields ps };exact k a _ (.inl rfl) e
 |met f y=>
  have e:h.get? a=some (PySem.W.methodObj (.ref f) (.ref y)):=x;show h'.get? a=some (PySem.W.methodObj (.ref f) (.ref y));exact k a _ (.inl rfl) e
 |ext φ=>obtain⟨p,⟨o,e⟩,st⟩:=x;exact⟨st _ _ p fun o q=>k _ _ (.inl rfl) q,⟨o,k _ _ (.inl rfl) e⟩,st⟩
theorem HOk.lt(x:HOk P w H h)(e:H a=some o):a<h.objs.size:=(x a o e).lt
theorem HOk.fresh(x:HOk P w H h)(e:h.objs.size<=a):H a=none:=by
 cases q:H a with
 |none=>rfl
 |some u=>exact absurd (B7 (x.lt q) e) (F8 _)
theorem HOk.kept(x:HOk P w H h)(k:∀b u,h.get? b=some u->h'.get? b=some u):HOk P w H h':=fun a o e=>
 (x a o e).stay (fun b u _ q=>k b u q) (fun _ q=>q) fun _ _ q=>q
theorem HOk.laid(x:HOk P w H h)(k:∀b u,h.get? b=some u->h'.get? b=some u)(hp:h.objs.size<=a)(new:cK P w (upd H a o) h' a o):HOk P w (upd H a o) h':=fun b u e=>by
 have hn:=x.fresh hp;by_cases hb:b=a
 .subst hb;rw[aP]at e;cases e;exact new
 .rw[aJ hb]at e;exact(x b u e).stay (fun c v _ q=>k c v q) (fun c q=>by rw[aJ (aO q hn)];exact q) fun c xs q=>by rw[aJ (aO q hn)];exact q
end
noncomputable def Rd(H:Hp)(a:Addr)(u:HO):Prop:=H a=some u\/∃o,H a=some (.frz o u)
theorem Rd.ok{P:Program}{w:World}{h:Heap}{a:Addr}{u:HO}(r:Rd H a u)(x:HOk P w H h):cK P w H h a u:=by
 rcases r with r|⟨o,r⟩
 .exact x a u r
 .obtain⟨_,q⟩:=x a _ r;exact q
noncomputable def Mut:Option HO->Prop
 |some (.lst _)=>True
 |some (.dK _)=>True
 |some (.dT _)=>True
 |some (.set _ _)=>True
 |some (.ins _ _ _)=>True
 |some (.ext _)=>True
 |_=>False
section
variable{P:Program}{w:World}{H:Hp}{h h':Heap}{x e:Addr}{o':HO}
theorem HOk.write(ok:HOk P w H h)(mu:Mut (H x))(he:e=x\/H e=some (.own x))(k:∀b u,b≠e->h.get? b=some u->h'.get? b=some u)(heo:∃u,h'.get? e=some u)
 (new:cK P w (upd H x o') h' x o'):HOk P w (upd H x o') h':=fun b u q=>by
 have nown:∀c y,H c=some (.own y)->c≠x:=fun c y r z=>by subst z;rw[r]at mu;exact mu
 have ntup:∀c xs,H c=some (.tup xs)->c≠x:=fun c xs r z=>by subst z;rw[r]at mu;exact mu
 by_cases hb:b=x
 .subst hb;rw[aP]at q;cases q;exact new
 .rw[aJ hb]at q;by_cases hbe:b=e
  .have q':H b=some (.own x):=by
    rcases he with z|z
    .exact absurd (hbe.trans z) hb
    .rw[hbe];exact z
   rw[q]at q';cases q';obtain⟨v,hv⟩:=heo;exact⟨v,by rw[hbe];exact hv⟩
  .refine(ok b u q).stay (fun c v hc r=>k c v ?_ r) (fun c r=>by rw[aJ (nown c b r)];exact r) fun c xs r=>by rw[aJ (ntup c xs r)];exact r
   rcases hc with rfl|hc
   .exact hbe
   .rintro rfl;rcases he with z|z
    .exact nown c b hc z
    .rw[hc]at z;cases z;exact hb rfl
end
structure Un(fs ex:List Addr)(H H':Hp)(h h':Heap):Prop where
 keep:∀b o,h.get? b=some o->H b=none->b∉fs->b∉ex->h'.get? b=some o
 slot:∀b o,h.get? b=some o->H b=none->b∈fs->b∉ex->∃sl,h'.get? b=some { o with slots:=sl }
 free:∀b o,h.get? b=some o->H b=none->b∉ex->H' b=none
 there:∀b o,h.get? b=some o->b∉ex->∃o',h'.get? b=some o'
 tups:∀b xs,H b=some (.tup xs)->H' b=some (.tup xs)
 frzs:∀b o u,H b=some (.frz o u)->H' b=some (.frz o u)
 tbls:∀b ps,H b=some (.tbl ps)->∃more,H' b=some (.tbl (ps++more))
section
variable{fs fs' ex ex':List Addr}{H H1 H2:Hp}{h h1 h2 h':Heap}{a x e:Addr}{o:HO}
theorem Un.any(u:Un fs ex H H1 h h1){b:Addr}{ob:Obj}(q:h.get? b=some ob)(n:H b=none)(hx:b∉ex):∃sl,h1.get? b=some { ob with slots:=sl }:=by
 by_cases hb:b∈fs
 .exact u.slot b ob q n hb hx
 .exact⟨ob.slots,u.keep b ob q n hb hx⟩
theorem Un.kept(k:∀b u,h.get? b=some u->h'.get? b=some u):Un fs ex H H h h':=
 ⟨fun b ob q _ _ _=>k b ob q,fun b ob q _ _ _=>⟨ob.slots,k b ob q⟩,fun _ _ _ n _=>n,fun b ob q _=>⟨ob,k b ob q⟩,fun _ _ q=>q,fun _ _ _ q=>q,fun _ ps q=>⟨#[],by rw[q];simp⟩⟩
theorem Un.refl:Un fs ex H H h h:=Un.kept fun _ _ q=>q
theorem Un.laid(k:∀b u,h.get? b=some u->h'.get? b=some u)(hp:h.objs.size<=a)(hn:H a=none):Un fs ex H (upd H a o) h h' where
 keep:=fun b u q _ _ _=>k b u q
 slot:=fun b u q _ _ _=>⟨u.slots,k b u q⟩
 free:=fun b u q n _=>by rw[aJ (B6 (B7 (A8 q) hp))];exact n
 there:=fun b u q _=>⟨u,k b u q⟩
 tups:=fun b xs q=>by rw[aJ (aO q hn)];exact q
 frzs:=fun b u xs q=>by rw[aJ (aO q hn)];exact q
 tbls:=fun b ps q=>⟨#[],by rw[aJ (aO q hn),q];simp⟩
theorem Un.write(mu:Mut (H x))(he:e=x\/H e=some (.own x))(k:∀b u,b≠e->h.get? b=some u->h'.get? b=some u)(heo:∃u,h'.get? e=some u):Un fs ex H (upd H x o) h h':=by
 have hx:∀b,H b=none->b≠x:=fun b n z=>by subst z;rw[n]at mu;exact mu
 have hb:∀b,H b=none->b≠e:=fun b n z=>by
  subst z;rcases he with r|r
  .exact hx b n r
  .rw[n]at r;cases r
 have hm:∀b u,H b=some u->¬Mut (some u)->b≠x:=fun b u q nm z=>by subst z;rw[q]at mu;exact nm mu
 refine⟨fun b u q n _ _=>k b u (hb b n) q,fun b u q n _ _=>⟨u.slots,k b u (hb b n) q⟩,fun b u q n _=>by rw[aJ (hx b n)];exact n,fun b u q _=>?_,
  fun b xs q=>by rw[aJ (hm b _ q fun z=>z)];exact q,fun b u xs q=>by rw[aJ (hm b _ q fun z=>z)];exact q,fun b ps q=>⟨#[],by rw[aJ (hm b _ q fun z=>z),q];simp⟩⟩
 by_cases hbe:b=e
 .subst hbe;exact heo
 .exact⟨u,k b u hbe q⟩
end
noncomputable def trk(h:Heap)(H:Hp):List Addr:=(List.range h.objs.size).filter fun a=>(H a).isSome
noncomputable def FY(h:Heap)(H:Hp):Heap:=PySem.W.hideAll h (trk h H)
theorem SH(h:Heap)(H:Hp):(FY h H).objs.size=h.objs.size:=PySem.W.hideAll_size _ _
theorem ZM{h:Heap}{b:Addr}{o:Obj}(e:h.get? b=some o)(n:H b=none):(FY h H).get? b=some o:=
 PySem.W.hideAll_get _ e fun hm=>by
  have q:(H b).isSome=true:=(List.mem_filter.mp hm).2;rw[n]at q;simp at q
theorem aCZ{h:Heap}{b:Addr}{o:Obj}(e:(FY h H).get? b=some o):h.get? b=some o/\H b=none:=by
 have e':h.get? b=some o:=PySem.W.of_hideAll (trk h H) e;refine⟨e',?_⟩;cases q:H b with
 |none=>rfl
 |some x=>
  have hm:b∈trk h H:=List.mem_filter.mpr ⟨List.mem_range.mpr (A8 e'),by simp[q]⟩;have z:(FY h H).get? b=none:=PySem.W.hideAll_none (trk h H) hm;rw[z]at e;cases e
noncomputable def lF(g h:Heap)(L:Addr):List (Addr×Obj):=(List.range h.objs.size).filterMap fun a=>if a=L\/(g.get? a).isSome=true then none else(h.get? a).map fun o=>(a,o)
theorem lC{g h:Heap}{L a:Addr}{o:Obj}(h1:a≠L)(h2:g.get? a=none)(h3:h.get? a=some o):(a,o)∈lF g h L:=
 List.mem_filterMap.mpr ⟨a,List.mem_range.mpr (A8 h3),by simp[h1,h2,h3]⟩
theorem zQ{g h:Heap}{L:Addr}{p:Addr×Obj}(hp:p∈lF g h L):p.1≠L/\g.get? p.1=none/\h.get? p.1=some p.2:=by
 obtain⟨b,_,e⟩:=List.mem_filterMap.mp hp;split at e
 .cases e
 .rename_i hn;cases q:h.get? b with
  |none=>rw[q]at e;simp at e
  |some u=>
   rw[q]at e;simp only[Option.map_some,Option.some.injEq]at e;subst e;refine⟨fun z=>hn (.inl z),?_,q⟩;show g.get? b=none;cases r:g.get? b with
   |none=>rfl
   |some v=>exact(hn (.inr (by simp[r]))).elim
noncomputable def rest(g h:Heap)(L d:Addr):List (Addr×Obj):=(lF g h L).filter fun p=>decide (p.1≠d)
theorem JY{g h:Heap}{L:Addr}:News g L h (lF g h L):=fun p hp=>let⟨a,b,c⟩:=zQ hp;⟨c,a,b⟩
structure Mod(K:Fg)(mg:Str->Option Value)(base:Heap):Prop where
 kin:K.In base
 glob:base.Ns mainGlobals mg
 blt:∃mb,base.Ns builtinsNs mb/\∀x:Str,x≠"__name__"->mb x=bootBuiltins x
 nolimit:base.NoLimit
 sysm:∃o es ep,base.get? sysModules=some o/\o.data=.dict es ep
structure Cx where
 prog:Program
 w:World
 K:Fg
 mg:Str->Option Value
 base:Heap
 A:Around
 N:List Str
 s₀:Shared
 H₀:Hp
 env:Env
 outer:List Env
 stack:List Env
 ex:List Addr
 fn:Str->Bool
 calm:Bool
 pn:List (Addr×Obj)
 xe:Value->Shared->Prop
noncomputable def frs(l:List Env):List Addr:=l.filterMap (·.frame)
noncomputable abbrev Cx.fs(X:Cx):List Addr:=frs X.outer
noncomputable def Vis(sc:Scope)(x:Str):Prop:=sc.names.lookup x=some .local\/sc.names.lookup x=some .cell\/sc.names.lookup x=some .free
noncomputable def Loc(sc:Scope)(x:Str):Prop:=sc.names.lookup x=some .local\/sc.names.lookup x=some .cell
noncomputable def Look(env:Env)(h:Heap)(m:Str->Option Value)(x:Str)(u:Value):Prop:=
 (env.kindOf x=some .local/\m x=some u)\/((env.kindOf x=some .cell\/env.kindOf x=some .free)/\∃c,env.cells.lookup x=some c/\h.IsCell c (some u))
structure Cx.Ok(X:Cx):Prop where
 mod:Mod X.K X.mg X.base
 kind:X.env.scope.kind=.function
 glob:X.env.globals=mainGlobals
 blt:X.env.builtins=builtinsNs
 above:X.s₀.heap.objs.size<=X.env.locals
 inj:∀x y c,X.env.cells.lookup x=some c->X.env.cells.lookup y=some c->x=y
 has:∀x,(X.env.kindOf x=some .cell\/X.env.kindOf x=some .free)->∃c,X.env.cells.lookup x=some c
 cab:∀x c,X.fn x=true->X.env.cells.lookup x=some c->X.s₀.heap.objs.size<=c
 hd:X.calm=true->X.A.handled=none
 frames:X.A.frames=some X.stack
 stk:X.stack=X.outer\/(X.stack=X.env::X.outer/\X.env.frame=some X.env.locals)
 exf:∀b∈X.ex,b≠X.env.locals/\∀x c,X.env.cells.lookup x=some c->c≠b
 bs:∀b o,X.base.get? b=some o->X.s₀.heap.get? b=some o/\X.H₀ b=none
 bsz:X.base.objs.size<=X.s₀.heap.objs.size
 noex:∀b o,X.base.get? b=some o->b∉X.ex
 exfs:∀b∈X.ex,b∉X.fs
 funs:X.s₀.heap.FunFrames X.base X.outer
 frf:∀b∈X.fs,X.H₀ b=none
structure Inv(X:Cx)(pins:List (Addr×Obj))(σ:List (Option V))(H:Hp)(s:Shared):Prop where
 ok:X.Ok
 os:s.os=X.s₀.os
 bare:AllBare s.gens
 base:Un X.fs X.ex X.H₀ H X.s₀.heap s.heap
 loc:∃m,s.heap.Ns X.env.locals m/\∀(i:Nat)(x:Str)(v:V),X.N[i]?=some x->σ[i]?=some (some v)->Vis X.env.scope x->∃u,RelV v u/\Look X.env s.heap m x u
 cell:∀x c,X.env.cells.lookup x=some c->∃v,s.heap.IsCell c v
 free:H X.env.locals=none
 freeC:∀x c,X.env.cells.lookup x=some c->H c=none
 pin:∀p∈X.pn++pins,s.heap.get? p.1=some p.2/\H p.1=none/\p.1≠X.env.locals/\p.1∉X.fs/\∀v,p.2.data≠.cell v
 hok:HOk X.prog X.w H s.heap
 len:σ.length=X.N.length
section
variable{X:Cx}{pins:List (Addr×Obj)}{σ:List (Option V)}{H H':Hp}{s:Shared}{h':Heap}
theorem Cx.Ok.nofr(ok:X.Ok){b:Addr}{o:Obj}(e:X.base.get? b=some o):b∉X.fs:=fun hb=>by
 have:=(ok.funs.mem hb).1;rw[e]at this;cases this
theorem Inv.bs(I:Inv X pins σ H s):∀b o,X.base.get? b=some o->s.heap.get? b=some o/\H b=none:=fun b o e=>
 ⟨I.base.keep b o (I.ok.bs b o e).1 (I.ok.bs b o e).2 (I.ok.nofr e) (I.ok.noex b o e),I.base.free b o (I.ok.bs b o e).1 (I.ok.bs b o e).2 (I.ok.noex b o e)⟩
theorem Inv.bk(I:Inv X pins σ H s):∀b o,X.base.get? b=some o->s.heap.get? b=some o:=fun b o e=>(I.bs b o e).1
theorem Inv.mod(I:Inv X pins σ H s):Mod X.K X.mg X.base:=I.ok.mod
theorem Inv.kIn(I:Inv X pins σ H s):X.K.In s.heap:=I.ok.mod.kin.keeps I.bk
theorem Inv.fr(I:Inv X pins σ H s):∃m,Fr X.base X.env.locals s.heap m:=
 let⟨m,hn,_⟩:=I.loc
 ⟨m,hn,I.bk,D3 I.ok.bsz I.ok.above⟩
theorem Inv.lt(I:Inv X pins σ H s):X.env.locals<s.heap.objs.size:=let⟨_,hn,_⟩:=I.loc;hn.lt
theorem Inv.sz(I:Inv X pins σ H s):X.s₀.heap.objs.size<=s.heap.objs.size:=D3 I.ok.above (S1 I.lt)
theorem Inv.nofs(I:Inv X pins σ H s){a:Addr}(h:s.heap.objs.size<=a):a∉X.fs:=fun hb=>by
 obtain⟨_,o,ho,_⟩:=I.ok.funs.mem hb;exact absurd (B7 (A8 ho) (D3 I.sz h)) (F8 _)
theorem Inv.cne(I:Inv X pins σ H s):∀x c,X.env.cells.lookup x=some c->c≠X.env.locals:=fun x c e z=>by
 obtain⟨v,o,ho,hd⟩:=I.cell x c e;obtain⟨m,⟨o',es,ep,ho',hd',_⟩,_⟩:=I.loc;rw[z,ho']at ho;cases ho;rw[hd']at hd;cases hd
theorem Inv.funs(I:Inv X pins σ H s):s.heap.FunFrames X.base X.outer:=by
 have all:∀(l:List Env),(∀b∈frs l,b∈X.fs)->X.s₀.heap.FunFrames X.base l->s.heap.FunFrames X.base l:=by
  intro l
  induction l with
  |nil=>intro _ _;trivial
  |cons env r ih=>
   intro hs hl;obtain⟨hk,⟨L,o,hf,hn,ho,hd⟩,hr⟩:=hl;have hL:L∈X.fs:=hs L (by unfold frs;rw[List.filterMap_cons,hf];exact B5);obtain⟨sl,e⟩:=I.base.slot L o ho (I.ok.frf L hL) hL fun z=>I.ok.exfs L z hL;exact⟨hk,⟨L,_,hf,hn,e,hd⟩,ih (fun b hb=>hs b (by unfold frs;rw[List.filterMap_cons,hf];exact B4 _ hb)) hr⟩
 exact all X.outer (fun _ hb=>hb) I.ok.funs
theorem Inv.stack(I:Inv X pins σ H s):s.heap.FunFrames X.base X.stack:=by
 rcases I.ok.stk with e|⟨e,hf⟩
 .rw[e];exact I.funs
 .rw[e];obtain⟨m,hn,_⟩:=I.loc;refine .cons (by rw[I.ok.kind];decide) hf hn ?_ I.funs;exact S6 (D3 I.ok.bsz I.ok.above)
theorem Inv.stkSub(I:Inv X pins σ H s):∀b∈frs X.stack,b∈X.env.locals::X.fs:=fun b hb=>by
 rcases I.ok.stk with e|⟨e,hf⟩
 .rw[e]at hb;exact B4 _ hb
 .rw[e]at hb;unfold frs at hb;rw[List.filterMap_cons,hf]at hb;exact hb
theorem Inv.stkFree(I:Inv X pins σ H s):∀b∈frs X.stack,H b=none:=fun b hb=>by
 rcases List.mem_cons.mp (I.stkSub b hb)with e|hb
 .rw[e];exact I.free
 .obtain⟨_,o,ho,_⟩:=I.ok.funs.mem hb;exact I.base.free b o ho (I.ok.frf b hb) fun z=>I.ok.exfs b z hb
theorem Inv.step{g':Array GenState}{t':Nat}{d':Drawn}{ch:List Addr}(I:Inv X pins σ H s)
 (hch:∀b∈ch,(b∈X.ex\/X.s₀.heap.objs.size<=b)/\b≠X.env.locals/\(∀x c,X.env.cells.lookup x=some c->c≠b)/\∀p∈X.pn++pins,p.1≠b)
 (keep:∀b o,b≠X.env.locals->b∉X.fs->b∉ch->s.heap.get? b=some o->H b=none->h'.get? b=some o)
 (slot:∀b o,b≠X.env.locals->b∈X.fs->b∉ch->s.heap.get? b=some o->H b=none->∃sl,h'.get? b=some { o with slots:=sl }) (free:∀b o,b∉ch->s.heap.get? b=some o->H b=none->H' b=none)
 (there:∀b o,b∉ch->s.heap.get? b=some o->∃o',h'.get? b=some o')
 (tups:∀b xs,H b=some (.tup xs)->H' b=some (.tup xs)) (frzs:∀b o u,H b=some (.frz o u)->H' b=some (.frz o u)) (tbls:∀b ps,H b=some (.tbl ps)->∃more,H' b=some (.tbl (ps++more)))
 (ns:∀m,s.heap.Ns X.env.locals m->h'.Ns X.env.locals m) (hok:HOk X.prog X.w H' h') (hg:AllBare g'):
 Inv X pins σ H' { s with heap:=h',gens:=g',drawn:=d',toks:=t' }:=by
 have neL:∀b o,X.s₀.heap.get? b=some o->b≠X.env.locals:=fun b o e=>B6 (B7 (A8 e) I.ok.above)
 have neC:∀b o,X.s₀.heap.get? b=some o->b∉X.ex->b∉ch:=fun b o e hx hb=>by
  rcases (hch b hb).1 with z|z
  .exact hx z
  .exact absurd (B7 (A8 e) z) (F8 _)
 have cellK:∀x c,X.env.cells.lookup x=some c->∀v,s.heap.IsCell c v->h'.IsCell c v:=fun x c e v ⟨o,ho,hd⟩=>by
  have nch:c∉ch:=fun z=>(hch c z).2.2.1 x c e rfl;by_cases hc:c∈X.fs
  .obtain⟨sl,q⟩:=slot c o (I.cne x c e) hc nch ho (I.freeC x c e);exact⟨_,q,hd⟩
  .exact⟨o,keep c o (I.cne x c e) hc nch ho (I.freeC x c e),hd⟩
 refine⟨I.ok,I.os,hg,⟨fun b o e n hb hx=>?_,fun b o e n hb hx=>?_,fun b o e n hx=>?_,fun b o e hx=>?_,fun b xs e=>tups b xs (I.base.tups b xs e),fun b o xs e=>frzs b o xs (I.base.frzs b o xs e),fun b ps e=>?_⟩,?_,fun x c e=>?_,?_,fun x c e=>?_,fun p hp=>?_,hok,I.len⟩
 .exact keep b o (neL b o e) hb (neC b o e hx) (I.base.keep b o e n hb hx) (I.base.free b o e n hx)
 .obtain⟨sl,e1⟩:=I.base.slot b o e n hb hx;obtain⟨sl',e2⟩:=slot b _ (neL b o e) hb (neC b o e hx) e1 (I.base.free b o e n hx);exact⟨sl',e2⟩
 .obtain⟨o',e1⟩:=I.base.there b o e hx;exact free b o' (neC b o e hx) e1 (I.base.free b o e n hx)
 .obtain⟨o',e1⟩:=I.base.there b o e hx;exact there b o' (neC b o e hx) e1
 .obtain⟨m1,e1⟩:=I.base.tbls b ps e;obtain⟨m2,e2⟩:=tbls b _ e1;exact⟨m1++m2,by rw[e2,Array.append_assoc]⟩
 .obtain⟨m,hn,hl⟩:=I.loc;refine⟨m,ns m hn,fun i x v e1 e2 e3=>?_⟩;obtain⟨u,r,l⟩:=hl i x v e1 e2 e3;refine⟨u,r,?_⟩;rcases l with l|⟨k,c,e,z⟩
  .exact .inl l
  .exact .inr ⟨k,c,e,cellK x c e _ z⟩
 .obtain⟨v,z⟩:=I.cell x c e;exact⟨v,cellK x c e v z⟩
 .obtain⟨m,⟨o,_,_,ho,_⟩,_⟩:=I.loc;exact free _ o (fun z=>(hch _ z).2.1 rfl) ho I.free
 .obtain⟨v,o,ho,hd⟩:=I.cell x c e;exact free c o (fun z=>(hch c z).2.2.1 x c e rfl) ho (I.freeC x c e)
 .obtain⟨e,n,ne,nf,d⟩:=I.pin p hp;have nch:p.1∉ch:=fun z=>(hch p.1 z).2.2.2 p hp rfl;exact⟨keep p.1 p.2 ne nf nch e n,free p.1 p.2 nch e n,ne,nf,d⟩
theorem Inv.un{t':Nat}(I:Inv X pins σ H s)(u:Un X.fs [] H H' s.heap h')(hok:HOk X.prog X.w H' h'):Inv X pins σ H' { s with heap:=h',toks:=t' }:=by
 obtain⟨m,⟨o,es,ep,ho,r⟩,_⟩:=id I.loc;obtain⟨sl,hL⟩:=u.any ho I.free (by simp)
 exact I.step (g':=s.gens) (d':=s.drawn) (ch:=[]) (fun _ z=>nomatch z) (fun b o _ hb _ e n=>u.keep b o e n hb (by simp)) (fun b o _ hb _ e n=>u.slot b o e n hb (by simp)) (fun b o _ e n=>u.free b o e n (by simp)) (fun b o _ e=>u.there b o e (by simp)) u.tups u.frzs u.tbls (fun m' hm=>by
  obtain⟨o',es',ep',ho',r'⟩:=hm;rw[ho]at ho';cases ho';exact⟨_,es',ep',hL,r'⟩) hok I.bare
theorem Inv.call{g':Array GenState}{t':Nat}{d':Drawn}{ch:List Addr}(I:Inv X pins σ H s)(u:Un (frs X.stack) ch H H' s.heap h')(hok:HOk X.prog X.w H' h')(hg:AllBare g')
 (hch:∀b∈ch,(b∈X.ex\/X.s₀.heap.objs.size<=b)/\b≠X.env.locals/\(∀x c,X.env.cells.lookup x=some c->c≠b)/\∀p∈X.pn++pins,p.1≠b):
 Inv X pins σ H' { s with heap:=h',gens:=g',drawn:=d',toks:=t' }:=by
 obtain⟨m,⟨o,es,ep,ho,r⟩,_⟩:=id I.loc;obtain⟨sl,hL⟩:=u.any ho I.free fun z=>(hch _ z).2.1 rfl
 exact I.step (ch:=ch) hch (fun b o hL hb hc e n=>u.keep b o e n (fun z=>(List.mem_cons.mp (I.stkSub b z)).elim hL hb) hc) (fun b o _ _ hc e n=>u.any e n hc) (fun b o hc e n=>u.free b o e n hc) (fun b o hc e=>u.there b o e hc) u.tups u.frzs u.tbls (fun m' hm=>by
  obtain⟨o',es',ep',ho',r'⟩:=hm;rw[ho]at ho';cases ho';exact⟨_,es',ep',hL,r'⟩) hok hg
theorem Inv.turned{t':Nat}{it:Addr}(I:Inv X pins σ H s)(k:∀b o,b≠it->s.heap.get? b=some o->h'.get? b=some o)(hn:H it=none)(hL:it≠X.env.locals)
 (h1:it∈X.ex\/X.s₀.heap.objs.size<=it) (h2:∀x c,X.env.cells.lookup x=some c->c≠it) (h3:∀p∈X.pn++pins,p.1≠it):Inv X pins σ H { s with heap:=h',toks:=t' }:=by
 have nit:∀b u,H b=some u->b≠it:=fun b u e z=>by rw[z,hn]at e;cases e
 refine I.step (g':=s.gens) (d':=s.drawn) (ch:=[it]) (fun b hb=>?_) (fun b o _ _ hc e _=>k b o (fun z=>hc (by simp[z])) e) (fun b o _ _ hc e _=>⟨o.slots,k b o (fun z=>hc (by simp[z])) e⟩) (fun _ _ _ _ n=>n)
  (fun b o hc e=>⟨o,k b o (fun z=>hc (by simp[z])) e⟩) (fun _ _ e=>e) (fun _ _ _ e=>e) (fun b ps e=>⟨#[],by rw[e];simp⟩) (fun m hm=>?_) (fun b u e=>?_) I.bare
 .have e:b=it:=by simpa using hb
  subst e;exact⟨h1,hL,h2,h3⟩
 .obtain⟨o,es,ep,ho,r⟩:=hm;exact⟨o,es,ep,k _ o (F0 hL) ho,r⟩
 .refine(I.hok b u e).stay (fun c v hc q=>k c v ?_ q) (fun _ q=>q) fun _ _ q=>q;rcases hc with z|z
  .rw[z];exact nit b u e
  .exact nit c _ z
theorem Inv.tok(I:Inv X pins σ H s)(t:Nat):Inv X pins σ H { s with toks:=t }:=I.un (h':=s.heap) (t':=t) Un.refl I.hok
theorem Inv.kept{t':Nat}(I:Inv X pins σ H s)(k:∀b u,s.heap.get? b=some u->h'.get? b=some u):Inv X pins σ H { s with heap:=h',toks:=t' }:=I.un (Un.kept k) (I.hok.kept k)
theorem Inv.laid{a:Addr}{o:HO}{t':Nat}(I:Inv X pins σ H s)(k:∀b u,s.heap.get? b=some u->h'.get? b=some u)(hp:s.heap.objs.size<=a)(new:cK X.prog X.w (upd H a o) h' a o):
 Inv X pins σ (upd H a o) { s with heap:=h',toks:=t' }:=I.un (Un.laid k hp (I.hok.fresh hp)) (I.hok.laid k hp new)
theorem Inv.write{x e:Addr}{o:HO}{t':Nat}(I:Inv X pins σ H s)(mu:Mut (H x))(he:e=x\/H e=some (.own x))(k:∀b u,b≠e->s.heap.get? b=some u->h'.get? b=some u)(heo:∃u,h'.get? e=some u)
 (new:cK X.prog X.w (upd H x o) h' x o):Inv X pins σ (upd H x o) { s with heap:=h',toks:=t' }:=I.un (Un.write mu he k heo) (I.hok.write mu he k heo new)
theorem Inv.pins_of{pins':List (Addr×Obj)}(I:Inv X pins σ H s)(h:∀p∈pins',s.heap.get? p.1=some p.2/\H p.1=none/\p.1≠X.env.locals/\p.1∉X.fs/\∀v,p.2.data≠.cell v):Inv X pins' σ H s:=
 ⟨I.ok,I.os,I.bare,I.base,I.loc,I.cell,I.free,I.freeC,fun p hp=>(List.mem_append.mp hp).elim (fun z=>I.pin p (E6 _ z)) (h p),I.hok,I.len⟩
theorem zS{N:List Str}(hN:N.Nodup){i j:Nat}{x:Str}(a:N[i]?=some x)(b:N[j]?=some x):i=j:=by
 obtain⟨h1,e1⟩:=List.getElem?_eq_some_iff.mp a;obtain⟨h2,e2⟩:=List.getElem?_eq_some_iff.mp b;exact(List.getElem_inj hN).mp (e1.trans e2.symm)
theorem CY{M:Model}{A:Around}{E:Value->Shared->Prop}{i:Nat}{x:Str}{v:V}{u:Value}{Q:Unit->Shared->Prop}(I:Inv X pins σ H s)(hN:X.N.Nodup)(hi:X.N[i]?=some x)(hx:Loc X.env.scope x)(r:RelV v u)
 (h:∀s',Inv X pins (σ.set i (some v)) H s'->(∃a,Heap.SameBut a s.heap s'.heap/\(a=X.env.locals\/X.env.cells.lookup x=some a))->Q () s') (hf:X.fn x=true\/X.env.scope.names.lookup x=some .local:=by first|exact .inl rfl|exact .inr rfl|assumption):wpAny M A (storeName X.env x u) Q E s:=by
 obtain⟨m,hn,hl⟩:=id I.loc;have hcls:(X.env.scope.kind==.class || (X.env.scope.kind==.module&&X.env.locals != X.env.globals))=false:=by rw[I.ok.kind];rfl
 have hiσ:i<σ.length:=by rw[I.len];exact(List.getElem?_eq_some_iff.mp hi).1
 have cne:=I.cne
 have tracked:∀{a:Addr}{h':Heap},(∃o,s.heap.get? a=some o/\H a=none)->Heap.SameBut a s.heap h'->HOk X.prog X.w H h':=fun{a h'} ha hs b ob e=>by
  obtain⟨_,_,hfree⟩:=ha;refine(I.hok b ob e).stay (fun c w' hc q=>(hs.2 c ?_).trans q) (fun _ q=>q) fun _ _ q=>q;rintro rfl;rcases hc with rfl|hc
  .rw[hfree]at e;cases e
  .rw[hfree]at hc;cases hc
 rcases hx with hk|hk
 .refine wpAny_storeName_local hk hn (fun h' hn' hs=>?_) hcls;obtain⟨oL,_,_,hoL,_⟩:=id hn;refine h _ ⟨I.ok,I.os,I.bare,⟨fun b o e n hb hx=>?_,fun b o e n hb hx=>?_,I.base.free,fun b o e hx=>?_,I.base.tups,I.base.frzs,I.base.tbls⟩,⟨_,hn',fun j y v' e1 e2 e3=>?_⟩,fun y c e=>?_,I.free,I.freeC,fun p hp=>?_,tracked ⟨oL,hoL,I.free⟩ hs,by simpa using I.len⟩ ⟨_,hs,.inl rfl⟩
  .exact(hs.2 b (B6 (B7 (A8 e) I.ok.above))).trans (I.base.keep b o e n hb hx)
  .obtain⟨sl,e1⟩:=I.base.slot b o e n hb hx;exact⟨sl,(hs.2 b (B6 (B7 (A8 e) I.ok.above))).trans e1⟩
  .obtain⟨o',e1⟩:=I.base.there b o e hx;exact⟨o',(hs.2 b (B6 (B7 (A8 e) I.ok.above))).trans e1⟩
  .by_cases hj:j=i
   .subst hj;rw[hi]at e1;cases e1;rw[E1 hiσ]at e2;cases e2;exact⟨u,r,.inl ⟨hk,by simp⟩⟩
   .rw[D7 (F0 hj)]at e2;obtain⟨u',r',q⟩:=hl j y v' e1 e2 e3;refine⟨u',r',?_⟩;rcases q with⟨k,e⟩|⟨k,c,e,z⟩
    .refine .inl ⟨k,?_⟩;have:y≠x:=fun e=>hj (zS hN e1 (e▸hi));simp[this,e]
    .exact .inr ⟨k,c,e,z.sameBut hs (cne y c e)⟩
  .obtain⟨w',z⟩:=I.cell y c e;exact⟨w',z.sameBut hs (cne y c e)⟩
  .obtain⟨e,n,ne,nf,d⟩:=I.pin p hp;exact⟨(hs.2 p.1 ne).trans e,n,ne,nf,d⟩
 .have hfn:X.fn x=true:=by
   rcases hf with z|z
   .exact z
   .rw[z]at hk;cases hk
  obtain⟨c,hc⟩:=I.ok.has x (.inl hk);obtain⟨w',z⟩:=I.cell x c hc;refine wpAny_storeName_cell I.ok.kind hk hc z (fun h' hc' hs=>?_);obtain⟨oc,hoc,hocd⟩:=id z;refine h { s with heap:=h' } ⟨I.ok,I.os,I.bare,⟨fun b o e n hb hx=>?_,fun b o e n hb hx=>?_,I.base.free,fun b o e hx=>?_,I.base.tups,I.base.frzs,I.base.tbls⟩,⟨m,hn.sameBut hs (F0 (cne x c hc)),fun j y v' e1 e2 e3=>?_⟩,fun y c' e=>?_,I.free,I.freeC,fun p hp=>?_,tracked ⟨oc,hoc,I.freeC x c hc⟩ hs,by simpa using I.len⟩ ⟨c,hs,.inr hc⟩
  .exact(hs.2 b (B6 (B7 (A8 e) (I.ok.cab x c hfn hc)))).trans (I.base.keep b o e n hb hx)
  .obtain⟨sl,e1⟩:=I.base.slot b o e n hb hx;exact⟨sl,(hs.2 b (B6 (B7 (A8 e) (I.ok.cab x c hfn hc)))).trans e1⟩
  .obtain⟨o',e1⟩:=I.base.there b o e hx;exact⟨o',(hs.2 b (B6 (B7 (A8 e) (I.ok.cab x c hfn hc)))).trans e1⟩
  .by_cases hj:j=i
   .subst hj;rw[hi]at e1;cases e1;rw[E1 hiσ]at e2;cases e2;exact⟨u,r,.inr ⟨.inl hk,c,hc,hc'⟩⟩
   .rw[D7 (F0 hj)]at e2;obtain⟨u',r',q⟩:=hl j y v' e1 e2 e3;refine⟨u',r',?_⟩;rcases q with q|⟨k,c',e,z'⟩
    .exact .inl q
    .refine .inr ⟨k,c',e,z'.sameBut hs ?_⟩;rintro rfl;exact hj (zS hN e1 (I.ok.inj _ _ _ e hc▸hi))
  .by_cases hcc:c'=c
   .subst hcc;exact⟨_,hc'⟩
   .obtain⟨w2,z2⟩:=I.cell y c' e;exact⟨w2,z2.sameBut hs hcc⟩
  .obtain⟨e,n,ne,nf,d⟩:=I.pin p hp;refine⟨(hs.2 p.1 ?_).trans e,n,ne,nf,d⟩;intro q;rw[q,hoc]at e;have q':oc=p.2:=D2 e;exact d w' (by rw[<- q'];exact hocd)
theorem pB{M:Model}{A:Around}{E:Value->Shared->Prop}{i:Nat}{x:Str}{v:V}{u:Value}{Q:Unit->Shared->Prop}(I:Inv X pins σ H s)(hN:X.N.Nodup)(hi:X.N[i]?=some x)(hx:Loc X.env.scope x)(r:RelV v u)
 (h:∀s',Inv X pins (σ.set i (some v)) H s'->Q () s') (hf:X.fn x=true\/X.env.scope.names.lookup x=some .local:=by first|exact .inl rfl|exact .inr rfl|assumption):wpAny M A (storeName X.env x u) Q E s:=
 CY I hN hi hx r (fun s' I' _=>h s' I') hf
theorem Inv.call'{s':Shared}{ch:List Addr}(I:Inv X pins σ H s)(ho:s'.os=s.os)(u:Un (frs X.stack) ch H H' s.heap s'.heap)(hok:HOk X.prog X.w H' s'.heap)(hg:AllBare s'.gens)
 (hch:∀b∈ch,(b∈X.ex\/X.s₀.heap.objs.size<=b)/\b≠X.env.locals/\(∀x c,X.env.cells.lookup x=some c->c≠b)/\∀p∈X.pn++pins,p.1≠b):Inv X pins σ H' s':=by
 obtain⟨h',g',d',t',o'⟩:=s';have e:o'=s.os:=ho;subst e;exact I.call (g':=g') (t':=t') (d':=d') u hok hg hch
end
noncomputable abbrev XK:=Value->Option Addr->Hp->Prop
noncomputable abbrev St:=List (Option V)
noncomputable abbrev VK:=V->Hp->Prop
noncomputable abbrev TE:=St->Hp->VK->Prop
noncomputable abbrev TT:=St->Hp->(Bool->Hp->Prop)->Prop
noncomputable abbrev TA:=St->Hp->(List V->Hp->Prop)->Prop
structure Ends where
 nx:St->Hp->Prop
 rt:VK
 bk:St->Hp->Prop:=fun _ _=>False
 ct:St->Hp->Prop:=fun _ _=>False
noncomputable abbrev TS:=Ends->St->Hp->Prop
noncomputable def EP(X:Cx)(pins:List (Addr×Obj))(σ:St)(Q:VK)(u:Value)(s':Shared):Prop:=∃v H',Inv X pins σ H' s'/\RelV v u/\Q v H'
noncomputable def TP(X:Cx)(pins:List (Addr×Obj))(σ:St)(Q:Bool->Hp->Prop)(b:Bool)(s':Shared):Prop:=∃H',Inv X pins σ H' s'/\Q b H'
noncomputable def AP(X:Cx)(pins:List (Addr×Obj))(σ:St)(Q:List V->Hp->Prop)(us:List Value)(s':Shared):Prop:=∃vs H',Inv X pins σ H' s'/\bC vs us/\Q vs H'
noncomputable def SP(X:Cx)(pins:List (Addr×Obj))(D:Ends)(f:Flow)(s':Shared):Prop:=
 match f with
 |.next=>∃σ' H',Inv X pins σ' H' s'/\D.nx σ' H'
 |.brk=>∃σ' H',Inv X pins σ' H' s'/\D.bk σ' H'
 |.cont=>∃σ' H',Inv X pins σ' H' s'/\D.ct σ' H'
 |.ret u=>∃v σ' H',Inv X pins σ' H' s'/\RelV v u/\D.rt v H'
noncomputable def PE(X:Cx)(e:Expr)(t:TE):Prop:=
 ∀(pins:List (Addr×Obj))(s:Shared)(σ:St)(H:Hp)(Q:VK),Inv X pins σ H s->t σ H Q->wpAny (model X.prog X.w) X.A (eval e X.env) (EP X pins σ Q) X.xe s
noncomputable def PT(X:Cx)(e:Expr)(t:TT):Prop:=
 ∀(pins:List (Addr×Obj))(s:Shared)(σ:St)(H:Hp)(Q:Bool->Hp->Prop),Inv X pins σ H s->t σ H Q->wpAny (model X.prog X.w) X.A (isTrue e X.env (eval e X.env)) (TP X pins σ Q) X.xe s
noncomputable def PW(X:Cx)(e:Expr)(t:TT):Prop:=
 ∀(whole:Sem Value)(pins:List (Addr×Obj))(s:Shared)(σ:St)(H:Hp)(Q:Bool->Hp->Prop),Inv X pins σ H s->t σ H Q->wpAny (model X.prog X.w) X.A (isTrue e X.env whole) (TP X pins σ Q) X.xe s
theorem PW.pt{X:Cx}{e:Expr}{t:TT}(h:PW X e t):PT X e t:=h _
noncomputable def PA(X:Cx)(es:List Expr)(t:TA):Prop:=
 ∀(pos:Pos)(pins:List (Addr×Obj))(s:Shared)(σ:St)(H:Hp)(Q:List V->Hp->Prop),Inv X pins σ H s->t σ H Q->wpAny (model X.prog X.w) X.A (spliced (backTo pos (starEach es X.env))) (AP X pins σ Q) X.xe s
noncomputable def PS(X:Cx)(st:Stmt)(t:TS):Prop:=
 ∀(pins:List (Addr×Obj))(s:Shared)(σ:St)(H:Hp)(D:Ends),Inv X pins σ H s->t D σ H->wpAny (model X.prog X.w) X.A (exec st X.env) (SP X pins D) X.xe s
noncomputable def PSs(X:Cx)(st:List Stmt)(t:TS):Prop:=
 ∀(pins:List (Addr×Obj))(s:Shared)(σ:St)(H:Hp)(D:Ends),Inv X pins σ H s->t D σ H->wpAny (model X.prog X.w) X.A (execs st X.env) (SP X pins D) X.xe s
theorem thn{α:Type}{t:Sem α}{Q Q':α->Shared->Prop}{M:Model}{E:Value->Shared->Prop}{s:Shared}(h:wpAny M A t Q E s)(hQ:∀a s,Q a s->Q' a s):wpAny M A t Q' E s:=D0 h hQ fun _ _ x=>x
section
variable{X:Cx}
theorem bin{a b:Expr}{ta tb:TE}(ha:PE X a ta)(hb:PE X b tb){pins:List (Addr×Obj)}{R:V->V->Hp->Prop}(I:Inv X pins σ H s)(h:ta σ H fun x H1=>tb σ H1 fun y H2=>R x y H2)
 {α:Type} {Q:α->Shared->Prop} {f:Value->Value->Sem α}
 (hf:∀v u s2 x y H2,Inv X pins σ H2 s2->RelV x v->RelV y u->R x y H2->wpAny (model X.prog X.w) X.A (f v u) Q X.xe s2):
 wpAny (model X.prog X.w) X.A (eval a X.env) (fun v s₁=>wpAny (model X.prog X.w) X.A (eval b X.env) (fun u s₂=>wpAny (model X.prog X.w) X.A (f v u) Q X.xe s₂) X.xe s₁) X.xe s:=by
 refine thn (ha pins s σ H _ I h) fun v s1 ⟨x,H1,I1,r1,q1⟩=>?_;refine thn (hb pins s1 σ H1 _ I1 q1) fun u s2 ⟨y,H2,I2,r2,q2⟩=>?_;exact hf v u s2 x y H2 I2 r1 r2 q2
noncomputable def aHu(i:Nat):TE:=fun σ H Q=>∃v,σ[i]?=some (some v)/\Q v H
noncomputable def tC(v:V):TE:=fun _ H Q=>Q v H
theorem aEh{i:Nat}{x:Str}(hN:X.N[i]?=some x)(hv:Vis X.env.scope x)(hd:(x==("__debug__":Str))=false:=by decide)(hcd:(x==("__classdict__":Str))=false:=by decide):PE X (.Name x pos) (aHu i):=by
 intro pins s σ H Q I h;obtain⟨v,e,h⟩:=h;obtain⟨m,hn,hl⟩:=I.loc;obtain⟨u,r,l⟩:=hl i x v hN e hv;have fin:EP X pins σ Q u s:=⟨v,H,I,r,h⟩;rcases l with⟨hk,hm⟩|⟨hk,c,hc,hcell⟩
 .exact wpAny_Name (wpAny_loadName_local I.ok.kind hk hn hm fin) hd
 .rcases hk with hk|hk
  .exact wpAny_Name (wpAny_loadName_cell I.ok.kind hk hc hcell fin) hd
  .exact wpAny_Name (wpAny_loadName_free I.ok.kind hk hc hcell fin hcd) hd
theorem aFo{i j pos}:PE X (.Constant (.int i) j pos) (tC (.int i)):=fun _ _ _ H _ I h=>wpAny_Constant_int ⟨.int i,H,I.tok _,⟨_,rfl⟩,h⟩
theorem aIC{b j pos}:PE X (.Constant (.bool b) j pos) (tC (.bl b)):=fun _ _ _ H _ I h=>Constant_bool ⟨.bl b,H,I,rfl,h⟩
theorem aFF{j pos}:PE X (.Constant .none j pos) (tC .non):=fun _ _ _ H _ I h=>Constant_none ⟨.non,H,I,rfl,h⟩
theorem aEI{x j pos}:PE X (.Constant (.str x) j pos) (tC (.str x)):=fun _ _ _ H _ I h=>Calls.Constant_str ⟨.str x,H,I.tok _,⟨_,rfl⟩,h⟩
noncomputable def Gl(X:Cx)(x:Str):Prop:=X.env.kindOf x=some .globalImplicit
theorem lA{E:Value->Shared->Prop}{pins:List (Addr×Obj)}{x:Str}{u:Value}{pos:Pos}{Q:Value->Shared->Prop}(I:Inv X pins σ H s)(hg:Gl X x)(hm:X.mg x=some u)(h:Q u s)
 (hd:(x==("__debug__":Str))=false:=by decide):wpAny (model X.prog X.w) X.A (eval (.Name x pos) X.env) Q E s:=
 Calls.Name_function_global I.ok.kind hg (Calls.loadGlobal_global (by rw[I.ok.glob];exact I.mod.glob.keeps I.bk) hm h) hd
theorem tK{E:Value->Shared->Prop}{pins:List (Addr×Obj)}{x:Str}{u:Value}{pos:Pos}{Q:Value->Shared->Prop}(I:Inv X pins σ H s)(hg:Gl X x)(hm:X.mg x=none)(hv:bootBuiltins x=some u)(h:Q u s)
 (hn:x≠"__name__":=by decide) (hd:(x==("__debug__":Str))=false:=by decide):wpAny (model X.prog X.w) X.A (eval (.Name x pos) X.env) Q E s:=by
 obtain⟨mb,h1,h2⟩:=I.mod.blt;exact Calls.Name_function_global I.ok.kind hg (Calls.loadGlobal_builtin (by rw[I.ok.glob];exact I.mod.glob.keeps I.bk) hm (by rw[I.ok.blt];exact h1.keeps I.bk) ((h2 x hn).trans hv) h) hd
theorem PX{x:Str}{v:V}{u:Value}(hg:Gl X x)(hm:X.mg x=some u)(r:RelV v u)(hd:(x==("__debug__":Str))=false:=by decide):PE X (.Name x pos) (tC v):=
 fun _ _ _ H _ I h=>lA I hg hm ⟨v,H,I,r,h⟩ hd
theorem uD{x:Str}{v:V}{u:Value}(hg:Gl X x)(hm:X.mg x=none)(hv:bootBuiltins x=some u)(r:RelV v u)(hn:x≠"__name__":=by decide)(hd:(x==("__debug__":Str))=false:=by decide):PE X (.Name x pos) (tC v):=
 fun _ _ _ H _ I h=>tK I hg hm hv ⟨v,H,I,r,h⟩ hn hd
variable{a b:Expr}{ta tb:TE}{pos:Pos}
noncomputable def PC(X:Cx)(op:CmpOp)(a b:Expr)(t:TE):Prop:=
 ∀(pins:List (Addr×Obj))(s:Shared)(σ:St)(H:Hp)(Q:VK),Inv X pins σ H s->t σ H Q->
  wpAny (model X.prog X.w) X.A (eval a X.env) (fun v s₁=>wpAny (model X.prog X.w) X.A (eval b X.env) (fun u s₂=>wpAny (model X.prog X.w) X.A (compareOp op v u) (EP X pins σ Q) X.xe s₂) X.xe s₁) X.xe s
theorem aAo(b:Expr){op:CmpOp}(h:op≠.In)(h2:op≠.NotIn):behindInMarks op b=false:=by
 have e1:(op==CmpOp.In)=false:=by cases op<;>first|rfl|exact absurd rfl h
 have e2:(op==CmpOp.NotIn)=false:=by cases op<;>first|rfl|exact absurd rfl h2
 cases b<;>simp[behindInMarks,e1,e2]
noncomputable def tB(t:TE):TT:=fun σ H Q=>t σ H fun x H1=>∃c,x=.bl c/\Q c H1
theorem aGT{op:CmpOp}{t:TE}(h:PC X op a b t)(h1:behindInMarks op b=false:=by first|exact aAo _ (by decide) (by decide)|rfl):PT X (.Compare a [op] [b] pos) (tB t):=by
 intro pins s σ H Q I hw;refine wpAny_isTrue_Compare1 (thn (h pins s σ H _ I hw) fun v s1 h1=>thn h1 fun u s2 h2=>thn h2 fun c s3 ⟨x,H1,I1,r1,q1⟩=>?_) h1;obtain⟨d,rfl,q⟩:=q1;cases r1;exact J2 ⟨H1,I1,q⟩
theorem aGj{e:Expr}{t:TE}(h:PE X e t)(he:∀whole,isTrue e X.env whole=(do let v <- whole;standAt e.pos;holding [v] (truthy v)):=by intro _;rfl):PT X e (tB t):=by
 intro pins s σ H Q I hw;refine isTrue_plain (thn (h pins s σ H _ I hw) fun v s1 ⟨x,H1,I1,r1,q1⟩=>?_) (he _);obtain⟨d,rfl,q⟩:=q1;cases r1;exact J2 ⟨H1,I1,q⟩
variable{tA tB':TT}{rest:List Expr}
noncomputable def tOr(t u:TT):TT:=fun σ H Q=>t σ H fun c H1=>if c=true then Q true H1 else u σ H1 Q
noncomputable def aHW(t:TT):TT:=fun σ H Q=>t σ H fun c H1=>Q (!c) H1
theorem aEX(ha:PT X a tA):PW X (.BoolOp .Or [a] pos) tA:=by
 intro wh pins s σ H Q I h;refine isTrue_or (thn (ha pins s σ H Q I h) fun c s1 e=>?_);cases c with
 |false=>exact isTrue_or_nil e
 |true=>exact e
theorem aHo(ha:PT X a tA)(hb:PW X (.BoolOp .Or (b::rest) pos) tB'):PW X (.BoolOp .Or (a::b::rest) pos) (tOr tA tB'):=by
 intro wh pins s σ H Q I h;refine isTrue_or (thn (ha pins s σ H _ I h) fun c s1 ⟨H1,I1,q1⟩=>?_);cases c with
 |true=>exact⟨H1,I1,q1⟩
 |false=>exact hb wh pins s1 σ H1 Q I1 q1
theorem aEw(ha:PT X a tA):PT X (.UnaryOp .Not a pos) (aHW tA):=by
 intro pins s σ H Q I h;exact isTrue_not (ha pins s σ H (fun c H1=>Q (!c) H1) I h)
noncomputable def aDs(ta tb:TE):TE:=fun σ H Q=>ta σ H fun x H1=>∃c,x=.bl c/\if c=true then tb σ H1 Q else Q (.bl false) H1
noncomputable def aGY(ta tb:TE):TE:=fun σ H Q=>ta σ H fun x H1=>∃c,x=.bl c/\if c=true then Q (.bl true) H1 else tb σ H1 Q
noncomputable def aDy(ta:TE):TE:=fun σ H Q=>ta σ H fun x H1=>∃c,x=.bl c/\Q (.bl (!c)) H1
theorem aEN{op}{t:TE}(h:PE X a t):PE X (.BoolOp op [a] pos) t:=fun pins s σ H Q I hw=>BoolOp_one (h pins s σ H Q I hw)
theorem aGC(ha:PE X a ta)(hb:PE X (.BoolOp .And (b::rest) pos) tb):PE X (.BoolOp .And (a::b::rest) pos) (aDs ta tb):=by
 intro pins s σ H Q I h;refine BoolOp_and (thn (ha pins s σ H _ I h) fun v s1 ⟨x,H1,I1,r1,q1⟩=>?_);obtain⟨c,rfl,q1⟩:=q1;cases r1;refine J2 ?_;cases c with
 |true=>exact hb pins s1 σ H1 Q I1 q1
 |false=>exact⟨.bl false,H1,I1,rfl,q1⟩
theorem aHj(ha:PE X a ta)(hb:PE X (.BoolOp .Or (b::rest) pos) tb):PE X (.BoolOp .Or (a::b::rest) pos) (aGY ta tb):=by
 intro pins s σ H Q I h;refine BoolOp_or (thn (ha pins s σ H _ I h) fun v s1 ⟨x,H1,I1,r1,q1⟩=>?_);obtain⟨c,rfl,q1⟩:=q1;cases r1;refine J2 ?_;cases c with
 |false=>exact hb pins s1 σ H1 Q I1 q1
 |true=>exact⟨.bl true,H1,I1,rfl,q1⟩
theorem aGh(ha:PE X a ta):PE X (.UnaryOp .Not a pos) (aDy ta):=by
 intro pins s σ H Q I h;refine UnaryOp_ (thn (ha pins s σ H _ I h) fun v s1 ⟨x,H1,I1,r1,q1⟩=>?_);obtain⟨c,rfl,q1⟩:=q1;cases r1;exact not_of (J2 ⟨.bl (!c),H1,I1,rfl,q1⟩)
noncomputable def tIf(t:TT)(ta tb:TE):TE:=fun σ H Q=>t σ H fun c H1=>if c=true then ta σ H1 Q else tb σ H1 Q
theorem UX{c:Expr}(hc:PT X c tA)(ha:PE X a ta)(hb:PE X b tb):PE X (.IfExp c a b pos) (tIf tA ta tb):=by
 intro pins s σ H Q I h;refine wpAny_IfExp (thn (hc pins s σ H _ I h) fun d s1 ⟨H1,I1,q1⟩=>?_);cases d with
 |true=>exact ha pins s1 σ H1 Q I1 q1
 |false=>exact hb pins s1 σ H1 Q I1 q1
end
noncomputable def SqL(K:Fg)(H:Hp)(a:Addr)(xs:List V):Prop:=
 Rd H a (.lst xs) \/
  ∃(o:Obj)(its:Array Value)(n:Nat),K.lookup a=some o/\o.cls=.type "list"/\o.dict=none/\o.data=.seq its n/\its.size<=sizeLine/\bC xs its.toList
noncomputable def SqT(K:Fg)(H:Hp)(a:Addr)(xs:List V):Prop:=
 Rd H a (.tup xs) \/
  ∃(o:Obj)(its:Array Value)(n:Nat),K.lookup a=some o/\o.cls=.type "tuple"/\o.data=.seq its n/\its.size<=sizeLine/\bC xs its.toList
noncomputable def aIN:Value->Option V
 |.none=>some .non
 |.bool b=>some (.bl b)
 |.int i _=>some (.int i)
 |.str x _=>some (.str x)
 |.bytes b _=>some (.byt b)
 |.float b _=>some (.flt b)
 |.ref a=>some (.ref a)
 |.type n=>some (.ty n)
 |_=>none
theorem RelV.abs{x:V}{u:Value}(r:RelV x u):aIN u=some x:=by
 cases x with
 |non=>cases r;rfl
 |bl _=>cases r;rfl
 |int _=>obtain⟨t,rfl⟩:=r;rfl
 |str _=>obtain⟨t,rfl⟩:=r;rfl
 |byt _=>obtain⟨t,rfl⟩:=r;rfl
 |flt _=>obtain⟨t,rfl⟩:=r;rfl
 |ref _=>cases r;rfl
 |ty _=>cases r;rfl
theorem RelV.inj{x y:V}{u:Value}(r:RelV x u)(q:RelV y u):x=y:=D2 (r.abs.symm.trans q.abs)
theorem bC.inj:∀{xs ys:List V}{us:List Value},bC xs us->bC ys us->xs=ys
 |_,_,_,.nil,.nil=>rfl
 |_,_,_,.cons r t,.cons r' t'=>by rw[r.inj r',bC.inj t t']
section
variable{X:Cx}{pins:List (Addr×Obj)}{σ:St}{H:Hp}{s:Shared}{a:Addr}{xs ys:List V}
theorem SqL.of(h:H a=some (.lst xs)):SqL K H a xs:=.inl (.inl h)
theorem SqT.of(h:H a=some (.tup xs)):SqT K H a xs:=.inl (.inl h)
theorem Inv.list(I:Inv X pins σ H s)(h:SqL X.K H a xs):∃its:List Value,bC xs its/\PlainL s.heap a its.toArray/\xs.length<=sizeLine:=by
 rcases h with h|⟨o,its,n,hk,hc,hd,hs,hz,r⟩
 .obtain⟨z,its,n,r,e⟩:=h.ok I.hok;exact⟨its,r,⟨_,n,e,rfl,rfl,rfl⟩,z⟩
 .refine⟨its.toList,r,⟨o,n,I.kIn a o hk,hc,hd,by simpa using hs⟩,?_⟩;have e:=r.length;simp only[Array.length_toList]at e;omega
theorem Inv.tuple(I:Inv X pins σ H s)(h:SqT X.K H a xs):∃its:List Value,bC xs its/\IsTup s.heap a its.toArray/\xs.length<=sizeLine:=by
 rcases h with h|⟨o,its,n,hk,hc,hs,hz,r⟩
 .obtain⟨z,its,r,p⟩:=h.ok I.hok;exact⟨its,r,p,z⟩
 .refine⟨its.toList,r,⟨o,I.kIn a o hk,hc,n,by simpa using hs⟩,?_⟩;have e:=r.length;simp only[Array.length_toList]at e;omega
theorem Inv.list_inj(I:Inv X pins σ H s)(h:SqL X.K H a xs)(h':SqL X.K H a ys):xs=ys:=by
 obtain⟨its,r,⟨o,n,e,_,_,d⟩,_⟩:=I.list h;obtain⟨its',r',⟨o',n',e',_,_,d'⟩,_⟩:=I.list h';rw[e]at e';cases e';rw[d]at d';injection d' with d1 _
 have:its=its':=by simpa using O6 Array.toList d1
 subst this;exact r.inj r'
theorem Inv.tuple_inj(I:Inv X pins σ H s)(h:SqT X.K H a xs)(h':SqT X.K H a ys):xs=ys:=by
 obtain⟨its,r,⟨o,e,_,n,d⟩,_⟩:=I.tuple h;obtain⟨its',r',⟨o',e',_,n',d'⟩,_⟩:=I.tuple h';rw[e]at e';cases e';rw[d]at d';injection d' with d1 _
 have:its=its':=by simpa using O6 Array.toList d1
 subst this;exact r.inj r'
end
noncomputable abbrev Cx.wish(X:Cx)(E:Value->Shared->Prop):Cx:={ X with xe:=E }
noncomputable abbrev Cx.nox(X:Cx):Cx:=X.wish fun _ _=>False
theorem Cx.Ok.wish{X:Cx}(ok:X.Ok)(E:Value->Shared->Prop):(X.wish E).Ok:=
 ⟨ok.mod,ok.kind,ok.glob,ok.blt,ok.above,ok.inj,ok.has,ok.cab,ok.hd,ok.frames,ok.stk,ok.exf,ok.bs,ok.bsz,ok.noex,ok.exfs,ok.funs,ok.frf⟩
theorem Cx.Ok.unwish{X:Cx}{E:Value->Shared->Prop}(ok:(X.wish E).Ok):X.Ok:=
 ⟨ok.mod,ok.kind,ok.glob,ok.blt,ok.above,ok.inj,ok.has,ok.cab,ok.hd,ok.frames,ok.stk,ok.exf,ok.bs,ok.bsz,ok.noex,ok.exfs,ok.funs,ok.frf⟩
section
variable{X:Cx}{pins:List (Addr×Obj)}{σ:St}{H:Hp}{s:Shared}{E:Value->Shared->Prop}
theorem Inv.wish(I:Inv X pins σ H s)(E:Value->Shared->Prop):Inv (X.wish E) pins σ H s:=⟨I.ok.wish E,I.os,I.bare,I.base,I.loc,I.cell,I.free,I.freeC,I.pin,I.hok,I.len⟩
theorem Inv.unwish(I:Inv (X.wish E) pins σ H s):Inv X pins σ H s:=⟨I.ok.unwish,I.os,I.bare,I.base,I.loc,I.cell,I.free,I.freeC,I.pin,I.hok,I.len⟩
theorem SP.unwish{D:Ends}{f:Flow}{s':Shared}(h:SP (X.wish E) pins D f s'):SP X pins D f s':=by
 cases f with
 |next=>obtain⟨σ',H',I,q⟩:=h;exact⟨σ',H',I.unwish,q⟩
 |brk=>obtain⟨σ',H',I,q⟩:=h;exact⟨σ',H',I.unwish,q⟩
 |cont=>obtain⟨σ',H',I,q⟩:=h;exact⟨σ',H',I.unwish,q⟩
 |ret u=>obtain⟨v,σ',H',I,r,q⟩:=h;exact⟨v,σ',H',I.unwish,r,q⟩
theorem PSs.nox{st:List Stmt}{t:TS}(h:PSs X.nox st t):PSs X st t:=fun pins s σ H D I hw=>
 D0 (h pins s σ H D (I.wish _) hw) (fun _ _ q=>q.unwish) fun _ _ z=>False.elim z
end
section
variable{X:Cx}{st:Stmt}{rest:List Stmt}{t u:TS}{e:Expr}{te:TE}{pos:Pos}
noncomputable def aDP:TS:=fun D σ H=>D.nx σ H
noncomputable def aFR(t u:TS):TS:=fun D σ H=>t { D with nx:=u D } σ H
theorem aAQ:PSs X [] aDP:=fun _ _ σ H _ I h=>Z8 ⟨σ,H,I,h⟩
theorem IY(h1:PS X st t)(h2:PSs X rest u):PSs X (st::rest) (aFR t u):=by
 intro pins s σ H D I h;refine wpAny_execs_cons (thn (h1 pins s σ H { D with nx:=u D } I h) fun f s1 q=>?_);cases f with
 |next=>
  obtain⟨σ',H',I',q⟩:=q;exact h2 pins s1 σ' H' D I' q
 |ret v=>exact q
 |brk=>exact q
 |cont=>exact q
theorem OS(h1:PS X st t):PSs X [st] t:=by
 intro pins s σ H D I h;refine wpAny_execs_cons (thn (h1 pins s σ H D I h) fun f s1 q=>?_);cases f with
 |next=>exact Z8 q
 |ret v=>exact q
 |brk=>exact q
 |cont=>exact q
theorem Inv.quiet{pins:List (Addr×Obj)}(I:Inv X pins σ H s):interactive X.env=false:=by simp[interactive,I.ok.kind]
noncomputable def aAh(te:TE):TS:=fun D σ H=>te σ H fun _ H1=>D.nx σ H1
theorem OQ(he:PE X e te)(hs:swapsWith e none pos.line X.env=pure false:=by rfl):PS X (.Expr e pos) (aAh te):=by
 intro pins s σ H D I h;exact wpAny_Expr_any (thn (he pins s σ H _ I h) fun v s1 ⟨x,H1,I1,r1,q1⟩=>⟨σ,H1,I1,q1⟩) I.quiet hs
noncomputable def aGn(te:TE):TS:=fun D σ H=>te σ H D.rt
theorem VS(he:PE X e te):PS X (.Return (some e) pos) (aGn te):=by
 intro pins s σ H D I h;exact wpAny_Return_some (thn (he pins s σ H _ I h) fun v s1 ⟨x,H1,I1,r1,q1⟩=>⟨x,σ,H1,I1,r1,q1⟩)
noncomputable def aEY(c:TT)(t u:TS):TS:=fun D σ H=>c σ H fun b H1=>if b=true then t D σ H1 else u D σ H1
theorem aDl{c:Expr}{a b:List Stmt}{tc:TT}(hc:PT X c tc)(ha:PSs X a t)(hb:PSs X b u):PS X (.If c a b pos) (aEY tc t u):=by
 intro pins s σ H D I h;refine wpAny_If (thn (hc pins s σ H _ I h) fun d s1 ⟨H1,I1,q1⟩=>?_);cases d with
 |true=>exact ha pins s1 σ H1 D I1 q1
 |false=>exact hb pins s1 σ H1 D I1 q1
end
noncomputable abbrev TG:=V->St->Hp->(St->Hp->Prop)->Prop
noncomputable abbrev TGs:=List V->St->Hp->(St->Hp->Prop)->Prop
noncomputable def PG(X:Cx)(target:Expr)(t:TG):Prop:=
 ∀(pins:List (Addr×Obj))(s:Shared)(σ:St)(H:Hp)(v:V)(u:Value)(Q:St->Hp->Prop),Inv X pins σ H s->RelV v u->t v σ H Q->
  wpAny (model X.prog X.w) X.A (assign target X.env u) (fun _ s'=>∃σ' H',Inv X pins σ' H' s'/\Q σ' H') X.xe s
noncomputable def PGs(X:Cx)(ts:List Expr)(t:TGs):Prop:=
 ∀(pins:List (Addr×Obj))(s:Shared)(σ:St)(H:Hp)(vs:List V)(us:List Value)(Q:St->Hp->Prop),Inv X pins σ H s->bC vs us->t vs σ H Q->
  wpAny (model X.prog X.w) X.A (assignInOrder ((assignEach ts X.env).map (·.2)) us) (fun _ s'=>∃σ' H',Inv X pins σ' H' s'/\Q σ' H') X.xe s
noncomputable abbrev aBS:=V->V->V->Hp->(Hp->Prop)->Prop
noncomputable def aFl(X:Cx)(t:aBS):Prop:=
 ∀(pins:List (Addr×Obj))(s:Shared)(σ:St)(H:Hp)(o i v:V)(ov iv u:Value)(Q:Hp->Prop),Inv X pins σ H s->RelV o ov->RelV i iv->RelV v u->t o i v H Q->
  wpAny (model X.prog X.w) X.A (setItem ov iv u) (fun _ s'=>∃H',Inv X pins σ H' s'/\Q H') X.xe s
section
variable{X:Cx}{pos:Pos}
noncomputable def IL(i:Nat):TG:=fun v σ H Q=>Q (σ.set i (some v)) H
theorem aCm{i:Nat}{x:Str}(hN:X.N.Nodup)(hi:X.N[i]?=some x)(hx:Loc X.env.scope x)(hf:X.fn x=true\/X.env.scope.names.lookup x=some .local:=by first|exact .inl rfl|exact .inr rfl|assumption):PG X (.Name x pos) (IL i):=by
 intro pins s σ H v u Q I r h;exact wpAny_assign_Name (pB I hN hi hx r (fun s' I'=>⟨_,H,I',h⟩) hf)
noncomputable def aIa:TGs:=fun vs σ H Q=>vs=[]/\Q σ H
noncomputable def aDI(t:TG)(u:TGs):TGs:=fun vs σ H Q=>∃v r,vs=v::r/\t v σ H fun σ' H'=>u r σ' H' Q
theorem aCu:PGs X [] aIa:=by
 intro pins s σ H vs us Q I r h;obtain⟨e,h⟩:=h;subst e;cases r;exact assignInOrder_nil ⟨σ,H,I,h⟩
theorem UF{e:Expr}{es:List Expr}{t:TG}{u:TGs}(h1:PG X e t)(h2:PGs X es u)
 (hs:(assignEach (e::es) X.env).map (·.2)=assign e X.env::(assignEach es X.env).map (·.2):=by rfl):PGs X (e::es) (aDI t u):=by
 intro pins s σ H vs us Q I r h;obtain⟨v,vr,e1,h⟩:=h;subst e1;cases r with
 |cons r rr=>
  rw[hs];refine assignInOrder_cons (thn (h1 pins s σ H _ _ _ I r h) fun _ s1 ⟨σ1,H1,I1,q1⟩=>?_);exact h2 pins s1 σ1 H1 _ _ Q I1 rr q1
noncomputable def UW(K:Fg)(n:Nat)(t:TGs):TG:=fun v σ H Q=>∃a xs,v=.ref a/\SqT K H a xs/\xs.length=n/\t xs σ H Q
theorem aEZ{es:List Expr}{k:Nat}{t:TGs}{n:Nat}(hc:X.calm=true)(h:PGs X es t)
 (hn:(assignEach es X.env).length=n:=by rfl) (hst:(assignEach es X.env).findIdx? (·.1)=none:=by rfl):PG X (.Tuple es k pos) (UW X.K n t):=by
 intro pins s σ H v u Q I r hw;obtain⟨a,xs,e1,hq,hl,hw⟩:=hw;subst e1;cases r;obtain⟨its,rv,ht,hz⟩:=I.tuple hq;refine assign_Tuple_tuple (I.ok.hd hc) ht (by simp[hn,<- hl,rv.length]) hst fun h' hx=>?_;have I1:Inv X pins σ H { s with heap:=h' }:=I.kept (t':=s.toks) fun b o e=>hx b o (B6 (A8 e)) e;exact h pins _ σ H xs _ Q I1 (by simpa using rv) hw
noncomputable def aHF(to ti:TE)(t:aBS):TG:=fun v σ H Q=>to σ H fun o H1=>ti σ H1 fun i H2=>t o i v H2 fun H3=>Q σ H3
theorem aGX{o i:Expr}{to ti:TE}{t:aBS}(ho:PE X o to)(hi:PE X i ti)(hs:aFl X t)
 (ha:∀v,assign (.Subscript o i pos) X.env v=(do
  let ov <- holding [v] (eval o X.env);let iv <- holding [v,ov] (eval i X.env)
  standAt pos
  holding [v,ov,iv] (setItem ov iv v)
  release [v,ov,iv] []):=by intro _;rfl):PG X (.Subscript o i pos) (aHF to ti t):=by
 intro pins s σ H v u Q I r h;rw[ha];refine A0 (D4 (thn (ho pins s σ H _ I h) fun ov s1 ⟨x,H1,I1,r1,q1⟩=>?_));refine A0 (D4 (thn (hi pins s1 σ H1 _ I1 q1) fun iv s2 ⟨y,H2,I2,r2,q2⟩=>?_));refine A0 (S0 (A0 (D4 (thn (hs pins s2 σ H2 x y v ov iv u _ I2 r1 r2 r q2) fun _ s3 ⟨H3,I3,q3⟩=>?_))));exact wpAny_release ⟨σ,H3,I3,q3⟩
noncomputable def VC(te:TE)(g:TG):TS:=fun D σ H=>te σ H fun x H1=>g x σ H1 D.nx
theorem aGJ{tg e:Expr}{te:TE}{g:TG}(he:PE X e te)(hg:PG X tg g)(hs:swapsWithSole [tg] e pos.line X.env=pure false:=by rfl)(hw:swappedStores [tg] e X.env=pure none:=by rfl)
 (h1:(assignEach [tg] X.env).map (·.2)=[assign tg X.env]:=by rfl):PS X (.Assign [tg] e pos) (VC te g):=by
 intro pins s σ H D I h;refine wpAny_Assign_stores (thn (he pins s σ H _ I h) fun v s1 ⟨x,H1,I1,r1,q1⟩=>?_) hs hw;rw[h1];exact thn (hg pins s1 σ H1 x v _ I1 r1 q1) fun _ s2 q=>q
theorem WK{i:Nat}{x:Str}{e:Expr}{te:TE}{pos':Pos}(hN:X.N.Nodup)(hi:X.N[i]?=some x)(hx:Loc X.env.scope x)(he:PE X e te)(hs:swapsWith e (some (.Name x pos')) pos.line X.env=pure false:=by rfl)(hf:X.fn x=true\/X.env.scope.names.lookup x=some .local:=by first|exact .inl rfl|exact .inr rfl|assumption):
 PS X (.Assign [.Name x pos'] e pos) (VC te (IL i)):=by
 intro pins s σ H D I h;refine wpAny_Assign_Name (thn (he pins s σ H _ I h) fun v s1 ⟨y,H1,I1,r1,q1⟩=>?_) hs;exact pB I1 hN hi hx r1 (fun s2 I2=>⟨_,H1,I2,q1⟩) hf
noncomputable def aIb(i j:Nat)(ta:TA):TS:=fun D σ H=>ta σ H fun vs H1=>∃v w,vs=[v,w]/\D.nx ((σ.set i (some v)).set j (some w)) H1
theorem aEc{i j:Nat}{x y:Str}{a b:Expr}{ta:TA}{px py pt:Pos}{kt k2 pt2}(hc:X.calm=true)(hN:X.N.Nodup)(hi:X.N[i]?=some x)(hj:X.N[j]?=some y)(hij:i≠j)
 (hx:X.env.scope.names.lookup x=some .local) (hy:X.env.scope.names.lookup y=some .local) (ha:PA X [a,b] ta)
 (hw:swappedStores [.Tuple [.Name x px,.Name y py] kt pt] (.Tuple [a,b] k2 pt2) X.env=pure (some [x,y]))
 (hs:swapsWithSole [.Tuple [.Name x px,.Name y py] kt pt] (.Tuple [a,b] k2 pt2) pos.line X.env=pure false:=by rfl):
 PS X (.Assign [.Tuple [.Name x px,.Name y py] kt pt] (.Tuple [a,b] k2 pt2) pos) (aIb i j ta):=by
 intro pins s σ H D I h;rw[exec_Assign_arm];refine A0 (S0 ?_);rw[hs];refine A0 (A3 ?_);rw[A5 (by decide)];refine A0 (Tuple_ (thn (ha _ pins s σ H _ I h) fun us s1 ⟨vs,H1,I1,r1,q1⟩=>?_));obtain⟨v,w,e1,q1⟩:=q1;subst e1
 obtain⟨u1,u2,rfl,rv,rw'⟩:∃u1 u2,us=[u1,u2]/\RelV v u1/\RelV w u2:=by
  cases r1 with
  |cons p q=>
   cases q with
   |cons p' q'=>
    cases q';exact⟨_,_,rfl,p,p'⟩
 refine C9 ?_ (by show 2<=sizeLine;decide);have I2:Inv X pins σ H1 { s1 with heap:=s1.heap.push { cls:=.type "tuple",data:=.seq [u1,u2].toArray } }:=I1.kept (t':=s1.toks) fun b o e=>A2 _ e;rw[hw];refine A0 (A3 ?_);show wpAny (model X.prog X.w) X.A (do rule "assign.swapped-stores";let items <- unpackItems (.ref s1.heap.objs.size) 2 none;assignInOrder [fun v=>bindName X.env y v,fun v=>bindName X.env x v] items.reverse;pure Flow.next) _ _ _;refine A0 (wpAny_rule (A0 (unpackItems_tuple (items:=#[u1,u2]) (I.ok.hd hc) (IsTup.new s1.heap _) fun h' hx'=>?_)));have I3:=I2.kept (h':=h') (t':=s1.toks) fun b o e=>hx' b o (B6 (A8 e)) e;show wpAny _ _ (assignInOrder [fun v=>bindName X.env y v,fun v=>bindName X.env x v] [u2,u1] >>= fun _=>pure Flow.next) _ _ _;refine A0 (assignInOrder_cons (wpAny_bindName (pB I3 hN hj (.inl hy) rw' (fun s2 I4=>?_) (.inr hy))));refine assignInOrder_cons (wpAny_bindName (pB I4 hN hi (.inl hx) rv (fun s3 I5=>assignInOrder_nil (A3 ?_)) (.inr hx)));rw[List.set_comm _ _ (F0 hij)]at I5;exact⟨_,H1,I5,q1⟩
end
section
variable{X:Cx}{pos:Pos}
noncomputable def XJ(c:TT)(tb:TS):TS:=fun D σ H=>∃W:Nat->St->Hp->Prop,(∃m,W m σ H)/\∀m σ H,W m σ H->
 c σ H fun b H1=>if b=true then ∃N:St->Hp->Prop,(∀σ' H',N σ' H'->∃m',m'<m/\W m' σ' H')/\tb { D with nx:=N,ct:=N,bk:=D.nx } σ H1 else D.nx σ H1
theorem VA{c:Expr}{body:List Stmt}{tc:TT}{tb:TS}(hp:PassesOwn (model X.prog X.w) X.A X.env X.xe)(hc:PT X c tc)(hb:PSs X body tb):PS X (.While c body [] pos) (XJ tc tb):=by
 intro pins s σ H D I h;obtain⟨W,⟨m0,w0⟩,turn⟩:=h;refine wpAny_While (codeAny_whileLoop (fun n s'=>∃σ' H',Inv X pins σ' H' s'/\W n σ' H') ?_ m0 ⟨σ,H,I,w0⟩);rintro n s1 ⟨σ1,H1,I1,w1⟩;refine O7 hp (thn (hc pins s1 σ1 H1 _ I1 (turn n σ1 H1 w1)) fun b s2 ⟨H2,I2,q2⟩=>?_);cases b with
 |true=>
  obtain⟨N,hN,q2⟩:=q2;rw[A4 rfl];refine O7 hp (thn (hb pins s2 σ1 H2 _ I2 q2) fun f s3 q3=>?_);cases f with
  |next=>
   obtain⟨σ3,H3,I3,n3⟩:=q3;obtain⟨m',hm,w3⟩:=hN σ3 H3 n3;exact⟨m',hm,σ3,H3,I3,w3⟩
  |cont=>
   obtain⟨σ3,H3,I3,n3⟩:=q3;obtain⟨m',hm,w3⟩:=hN σ3 H3 n3;exact⟨m',hm,σ3,H3,I3,w3⟩
  |brk=>exact q3
  |ret v=>exact q3
 |false=>
  rw[A5 A6];exact Z8 ⟨σ1,H2,I2,q2⟩
end
structure It where
 go:Nat->Hp->Prop
 yld:Nat->Hp->V->Hp->Prop
 stop:Nat->Hp->Prop
noncomputable def mT(X:Cx)(pins:List (Addr×Obj))(H:Hp)(b:Addr):Prop:=
 H b=none/\b≠X.env.locals/\b∉X.fs/\(b∈X.ex\/X.s₀.heap.objs.size<=b)/\(∀x c,X.env.cells.lookup x=some c->c≠b)/\∀p∈X.pn++pins,p.1≠b
theorem Inv.fpOk{X:Cx}{pins:List (Addr×Obj)}{H':Hp}{b:Addr}(I:Inv X pins σ H s)(hb:s.heap.objs.size<=b)(hn:H' b=none):mT X pins H' b:=by
 refine⟨hn,F9 (B7 I.lt hb),I.nofs hb,.inr (D3 I.sz hb),fun x c e z=>?_,fun p hp z=>?_⟩
 .obtain⟨v,q⟩:=I.cell x c e;exact absurd (B7 q.lt (by rw[z];exact hb)) (F8 _)
 .exact absurd (B7 (A8 (I.pin p hp).1) (by rw[z];exact hb)) (F8 _)
structure Turn(P:Program)(w:World)(K:Fg)(tg:Expr)(J:It)(fp:List Addr)(it:Addr)(tn:Nat->Heap->Prop):Prop where
 mem:it∈fp
 obj:∀i h,tn i h->∀b∈fp,∃o,h.get? b=some o/\∀v,o.data≠.cell v
 keep:∀i h h',tn i h->(∀b∈fp,∀o,h.get? b=some o->h'.get? b=some o)->tn i h'
 item:∀(X:Cx),X.prog=P->X.w=w->X.K=K->X.calm=true->∀(i:Nat)(pins:List (Addr×Obj))(s:Shared)(σ:St)(H:Hp)(E:Value->Shared->Prop),Inv X pins σ H s->(∀b∈fp,mT X pins H b)->tn i s.heap->J.go i H->
  wpAny (model P w) X.A (pyNext (.ref it)) (fun r s1=>∃u,r=some u /\
   wpAny (model P w) X.A (letOwnedTupleGo tg (.ref it) u) (fun _ s2=>∃x H',Inv X pins σ H' s2/\RelV x u/\J.yld i H x H'/\tn (i+1) s2.heap/\∀b∈fp,H' b=none) E s1) E s
 done:∀(X:Cx),X.prog=P->X.w=w->X.K=K->X.calm=true->∀(i:Nat)(pins:List (Addr×Obj))(s:Shared)(σ:St)(H:Hp)(E:Value->Shared->Prop),Inv X pins σ H s->(∀b∈fp,mT X pins H b)->tn i s.heap->J.stop i H->
  wpAny (model P w) X.A (pyNext (.ref it)) (fun r s1=>r=none/\Inv X pins σ H s1) E s
 self:∀(A:Around)(i:Nat)(s:Shared)(Q:Value->Shared->Prop)(E:Value->Shared->Prop),tn i s.heap->Q (.ref it) s->wpAny (model P w) A (pyIter (.ref it)) Q E s
noncomputable abbrev TI:=St->Hp->(It->Hp->Prop)->Prop
noncomputable def PIE(X:Cx)(pins:List (Addr×Obj))(σ:St)(tg:Expr)(R:It->Hp->Prop)(itv:Value)(s2:Shared):Prop:=
 ∃(it:Addr)(fp:List Addr)(tn:Nat->Heap->Prop)(J:It)(H':Hp),itv=.ref it/\Inv X pins σ H' s2/\Turn X.prog X.w X.K tg J fp it tn/\tn 0 s2.heap/\(∀b∈fp,mT X pins H' b)/\R J H'
noncomputable def PI(X:Cx)(tg iter:Expr)(wi:TI):Prop:=
 ∀(pins:List (Addr×Obj))(s:Shared)(σ:St)(H:Hp)(R:It->Hp->Prop),Inv X pins σ H s->wi σ H R->
  wpAny (model X.prog X.w) X.A (eval iter X.env) (fun v s1=>wpAny (model X.prog X.w) X.A (pyIter v) (PIE X pins σ tg R) X.xe s1) X.xe s
theorem OT{M:Model}{A:Around}{E:Value->Shared->Prop}{tg:Expr}{it:Addr}{u:Value}{o:Obj}{n:String}{vs:Array Value}{Q:Unit->Shared->Prop}(ho:s.heap.get? it=some o)(hc:o.cls=.type n)(hd:o.data=.fields vs)
 (hn:["enumerate","zip","dict_itemiterator","dict_reverseitemiterator","odict_iterator","itertools.zip_longest","itertools.pairwise"].contains n=false) (hQ:Q () s):wpAny M A (letOwnedTupleGo tg (.ref it) u) Q E s:=by
 unfold letOwnedTupleGo
 cases tg<;>first
  |exact A3 hQ
  |(cases u<;>first
   |exact A3 hQ
   | (refine A0 (wpAny_load ho ?_)
      rw[hc,hd];show wpAny M A (if (["enumerate","zip","dict_itemiterator","dict_reverseitemiterator","odict_iterator","itertools.zip_longest","itertools.pairwise"].contains n&&vs[0]?==some (rawInt _))=true then _ else _) Q E s;rw[A5 (by intro h;rw[hn,Bool.false_and]at h;cases h)];exact A3 hQ))
noncomputable def Itl(K:Fg)(a:Addr):It:=
 ⟨fun i H=>∃xs x,SqL K H a xs/\xs[i]?=some x,fun i H x H'=>H'=H/\∀xs,SqL K H a xs->xs[i]?=some x,fun i H=>∃xs,SqL K H a xs/\xs.length<=i⟩
noncomputable def Itt(K:Fg)(a:Addr):It:=
 ⟨fun i H=>∃xs x,SqT K H a xs/\xs[i]?=some x,fun i H x H'=>H'=H/\∀xs,SqT K H a xs->xs[i]?=some x,fun i H=>∃xs,SqT K H a xs/\xs.length<=i⟩
noncomputable def Itr(lo:Int)(n:Nat):It:=⟨fun i _=>i<n,fun i H x H'=>H'=H/\x=.int (lo+i),fun i _=>n<=i⟩
theorem SU{P:Program}{w:World}{tg:Expr}(a it:Addr):Turn P w K tg (Itl K a) [it] it (fun i h=>h.IsListIter it a i) where
 mem:=by simp
 obj:=fun i h st b hb=>by
  have e:b=it:=by simpa using hb
  subst e;obtain⟨o,e,c,d⟩:=st;exact⟨o,e,fun v z=>by rw[d]at z;cases z⟩
 keep:=fun i h h' st k=>st.at fun o e=>k it (by simp) o e
 item:=by
  intro X hP hw hK hc i pins s σ H E I hf st hg;subst hP hw hK;obtain⟨xs,x,hq,hx⟩:=hg;obtain⟨its,rv,p,hz⟩:=I.list hq;obtain⟨u,hu,ru⟩:=rv.get hx;obtain⟨f0,f1,f2,f3,f4,f5⟩:=hf it (by simp);refine wpAny_pyNext_list_item st p.isList (x:=u) (by simpa using hu) fun h' st' sb=>?_;have I1:Inv X pins σ H { s with heap:=h' }:=I.turned (t':=s.toks) (fun b o hb e=>(sb.2 b hb).trans e) f0 f1 f3 f4 f5;obtain⟨o,e,c,d⟩:=id st';exact⟨u,rfl,OT (s:={ s with heap:=h' }) e c d (by decide) ⟨x,H,I1,ru,⟨rfl,fun ys hy=>by rw[I.list_inj hy hq];exact hx⟩,st',fun b hb=>(hf b hb).1⟩⟩
 done:=by
  intro X hP hw hK hc i pins s σ H E I hf st hg;subst hP hw hK;obtain⟨xs,hq,hx⟩:=hg;obtain⟨its,rv,p,hz⟩:=I.list hq;obtain⟨f0,f1,f2,f3,f4,f5⟩:=hf it (by simp);have hl:=rv.length;exact wpAny_pyNext_list_end (I.ok.hd hc) st p.isList (by simp;omega) fun h' eb=>⟨rfl,I.turned (t':=s.toks) (fun b o hb e=>eb b o hb e) f0 f1 f3 f4 f5⟩
 self:=fun _ _ _ _ _ st h=>wpAny_pyIter_listiter st h
theorem LZ{P:Program}{w:World}{tg:Expr}(a it:Addr):Turn P w K tg (Itt K a) [it] it (fun i h=>h.IsTupleIter it a i) where
 mem:=by simp
 obj:=fun i h st b hb=>by
  have e:b=it:=by simpa using hb
  subst e;obtain⟨o,e,c,d⟩:=st;exact⟨o,e,fun v z=>by rw[d]at z;cases z⟩
 keep:=fun i h h' st k=>st.at fun o e=>k it (by simp) o e
 item:=by
  intro X hP hw hK hc i pins s σ H E I hf st hg;subst hP hw hK;obtain⟨xs,x,hq,hx⟩:=hg;obtain⟨its,rv,p,hz⟩:=I.tuple hq;obtain⟨u,hu,ru⟩:=rv.get hx;obtain⟨f0,f1,f2,f3,f4,f5⟩:=hf it (by simp);refine wpAny_pyNext_tuple_item st (show s.heap.IsTuple a its.toArray from p) (x:=u) (by simpa using hu) fun h' st' sb=>?_;have I1:Inv X pins σ H { s with heap:=h' }:=I.turned (t':=s.toks) (fun b o hb e=>(sb.2 b hb).trans e) f0 f1 f3 f4 f5;obtain⟨o,e,c,d⟩:=id st';exact⟨u,rfl,OT (s:={ s with heap:=h' }) e c d (by decide) ⟨x,H,I1,ru,⟨rfl,fun ys hy=>by rw[I.tuple_inj hy hq];exact hx⟩,st',fun b hb=>(hf b hb).1⟩⟩
 done:=by
  intro X hP hw hK hc i pins s σ H E I hf st hg;subst hP hw hK;obtain⟨xs,hq,hx⟩:=hg;obtain⟨its,rv,p,hz⟩:=I.tuple hq;obtain⟨f0,f1,f2,f3,f4,f5⟩:=hf it (by simp);have hl:=rv.length;exact wpAny_pyNext_tuple_end (I.ok.hd hc) st (show s.heap.IsTuple a its.toArray from p) (by simp;omega) fun h' eb=>⟨rfl,I.turned (t':=s.toks) (fun b o hb e=>eb b o hb e) f0 f1 f3 f4 f5⟩
 self:=fun _ _ _ _ _ st h=>wpAny_pyIter_tupleiter st h
theorem NY{P:Program}{w:World}{tg:Expr}(it:Addr)(lo:Int)(n:Nat):Turn P w K tg (Itr lo n) [it] it (fun i h=>IsRangeIter h it (lo+(i:Nat)*1) ((n:Int)-(i:Nat)) 1) where
 mem:=by simp
 obj:=fun i h st b hb=>by
  have e:b=it:=by simpa using hb
  subst e
  exact⟨_,st,fun v z=>by
   have z':Data.fields _=Data.cell v:=z;cases z'⟩
 keep:=fun i h h' st k=>k it (by simp) _ st
 item:=by
  intro X hP hw hK hc i pins s σ H E I hf st hg;subst hP hw hK;obtain⟨f0,f1,f2,f3,f4,f5⟩:=hf it (by simp);have W:=Walks.range (prog:=X.prog) (w:=X.w) (I.ok.hd hc) it lo 1 n;refine W.item i s _ _ hg st fun v h' tk hv st' kk=>?_;obtain⟨t,rfl⟩:=hv;have I1:Inv X pins σ H { s with heap:=h',toks:=tk }:=I.turned (fun b o hb e=>kk b o (by simpa using hb) e) f0 f1 f3 f4 f5;refine⟨_,rfl,OT (s:={ s with heap:=h',toks:=tk }) (n:="range_iterator") st' rfl rfl (by decide) ⟨.int (lo+i),H,I1,⟨t,?_⟩,⟨rfl,rfl⟩,st',fun b hb=>(hf b hb).1⟩⟩;rw[Int.mul_one]
 done:=by
  intro X hP hw hK hc i pins s σ H E I hf st hg;subst hP hw hK;obtain⟨f0,f1,f2,f3,f4,f5⟩:=hf it (by simp);exact wpAny_pyNext_range_end (I.ok.hd hc) st (by have:n<=i:=hg;omega) fun h' eb=>⟨rfl,I.turned (t':=s.toks) (fun b o hb e=>eb b o hb e) f0 f1 f3 f4 f5⟩
 self:=fun _ _ _ _ _ st h=>wpAny_pyIter_rangeiter st h
section
variable{X:Cx}{tg:Expr}
theorem VM{pins:List (Addr×Obj)}{R:It->Hp->Prop}{E:Value->Shared->Prop}{lo hi:Int}{t u v:Tok}{tk:Nat}(I:Inv X pins σ H s)(h1:-(2 ^ 62)<=lo)(h2:lo<2 ^ 62)(h3:-(2 ^ 62)<=hi)(h4:hi<2 ^ 62)
 (q:R (Itr lo (hi-lo).toNat) H):wpAny (model X.prog X.w) X.A (pyIter (.ref s.heap.objs.size)) (PIE X pins σ tg R) E { s with heap:=s.heap.push { cls:=.type "range",data:=.fields #[.int lo t,.int hi u,.int 1 v] },toks:=tk }:=by
 refine wpAny_pyIter_range (IsRange.new ..) (small_one h1 h2 h3 h4) ?_;have I1:Inv X pins σ H { s with heap:=s.heap.push { cls:=.type "range",data:=.fields #[.int lo t,.int hi u,.int 1 v] },toks:=tk }:=I.kept fun b o e=>A2 _ e
 refine⟨(s.heap.push { cls:=.type "range",data:=.fields #[.int lo t,.int hi u,.int 1 v] }).objs.size,[(s.heap.push { cls:=.type "range",data:=.fields #[.int lo t,.int hi u,.int 1 v] }).objs.size],_,_,H,rfl,
  I1.kept (t':=tk) fun b o e=>A2 _ e,NY _ lo (hi-lo).toNat,?_,fun b hb=>?_,q⟩
 .have e1:lo+((0:Nat):Int)*1=lo:=by simp
  have e2:(((hi-lo).toNat:Nat):Int)-((0:Nat):Int)=Builtin.Range.rangeSize lo hi 1:=by rw[rangeSize_one];split<;>omega
  show IsRangeIter _ _ (lo+((0:Nat):Int)*1) ((((hi-lo).toNat:Nat):Int)-((0:Nat):Int)) 1;rw[e1,e2];exact B0 _ rfl
 .have e:b=(s.heap.push { cls:=.type "range",data:=.fields #[.int lo t,.int hi u,.int 1 v] }).objs.size:=by simpa using hb
  subst e;exact I1.fpOk (A7 _) (I1.hok.fresh (A7 _))
noncomputable def aDD(ta:TA):TI:=fun σ H R=>ta σ H fun vs H1=>∃j:Int,vs=[.int j]/\-(2 ^ 62)<=j/\j<2 ^ 62/\R (Itr 0 j.toNat) H1
theorem RZ{a:Expr}{ta:TA}{p:Pos}(hg:Gl X "range")(hm:X.mg "range"=none)(ha:PA X [a] ta)(hs:starEach [a] X.env=[(false,eval a X.env)]:=by rfl):PI X tg (.Call (.Name "range" p) [a] [] pos) (aDD ta):=by
 intro pins s σ H R I h;refine Call_ (tK I hg hm boot_range (Z2 (thn (ha pos pins s σ H _ I h) fun us s1 ⟨vs,H1,I1,r1,q1⟩=>?_) hs rfl));obtain⟨j,e,q1,q2,q⟩:=q1;subst e;cases r1 with
 |cons r rr=>
  cases rr;obtain⟨t,rfl⟩:=r;exact call_range_1 (VM I1 (by omega) (by omega) q1 q2 (by simpa using q))
noncomputable def aGS(wi:TI)(g:TG)(tb:TS):TS:=fun D σ H=>wi σ H fun J H1=>∃W:Nat->Nat->St->Hp->Prop,(∃m,W 0 m σ H1)/\∀i m σ H,W i m σ H->
 (J.stop i H/\D.nx σ H)\/(J.go i H/\∃N:St->Hp->Prop,(∀σ' H',N σ' H'->∃m',m'<m/\W (i+1) m' σ' H')/\∀x H',J.yld i H x H'->g x σ H' fun σ2 H2=>tb { D with nx:=N,ct:=N,bk:=D.nx } σ2 H2)
noncomputable def vL(fp:List Addr)(h:Heap):List (Addr×Obj):=fp.filterMap fun b=>(h.get? b).map fun o=>(b,o)
theorem gI{fp:List Addr}{h:Heap}{b:Addr}{o:Obj}(hb:b∈fp)(e:h.get? b=some o):(b,o)∈vL fp h:=List.mem_filterMap.mpr ⟨b,hb,by rw[e];rfl⟩
theorem RK{fp:List Addr}{h:Heap}{p:Addr×Obj}(hp:p∈vL fp h):p.1∈fp/\h.get? p.1=some p.2:=by
 obtain⟨b,hb,e⟩:=List.mem_filterMap.mp hp;cases q:h.get? b with
 |none=>rw[q]at e;cases e
 |some o=>
  rw[q]at e;have e':(b,o)=p:=D2 e;subst e';exact⟨hb,q⟩
theorem Inv.pinned{pins:List (Addr×Obj)}{fp:List Addr}(I:Inv X pins σ H s)(hf:∀b∈fp,mT X pins H b)(ho:∀b∈fp,∃o,s.heap.get? b=some o/\∀v,o.data≠.cell v):Inv X (pins++vL fp s.heap) σ H s:=
 I.pins_of fun p hp=>(List.mem_append.mp hp).elim (fun z=>I.pin p (B9 _ z)) fun z=>by
  obtain⟨hb,e⟩:=RK z;obtain⟨f0,f1,f2,_⟩:=hf p.1 hb;obtain⟨o,e',d⟩:=ho p.1 hb;rw[e]at e';cases e';exact⟨e,f0,f1,f2,d⟩
theorem Inv.unpinned{pins pl:List (Addr×Obj)}(I:Inv X (pins++pl) σ H s):Inv X pins σ H s:=I.pins_of fun p hp=>I.pin p (B9 _ (E6 _ hp))
theorem WA{iter:Expr}{body:List Stmt}{wi:TI}{g:TG}{tb:TS}{pos:Pos}(hp:PassesOwn (model X.prog X.w) X.A X.env X.xe)(hc:X.calm=true)(hi:PI X tg iter wi)(hg:PG X tg g)(hb:PSs X body tb)
 (hs:∀x,foldedSetIterable iter X.env x=pure x:=by intro _;rfl):PS X (.For tg iter body [] pos) (aGS wi g tb):=by
 intro pins s σ H D I h;refine wpAny_For (thn (hi pins s σ H _ I h) fun v s1 h1=>thn h1 fun itv s2 h2=>?_) hs;obtain⟨it,fp,tn,J,H2,e,I2,T,st2,f2,W,⟨m0,w0⟩,turn⟩:=h2;subst e;have stat:∀{H':Hp},(∀b∈fp,H' b=none)->∀b∈fp,mT X pins H' b:=fun hn b hb=>⟨hn b hb,(f2 b hb).2⟩;refine codeAny_forLoop_any (fun n s'=>∃i σ' H',Inv X pins σ' H' s'/\tn i s'.heap/\(∀b∈fp,H' b=none)/\W i n σ' H') ?_ m0 ⟨0,σ,H2,I2,st2,fun b hb=>(f2 b hb).1,w0⟩;rintro n s3 ⟨i,σ3,H3,I3,st3,fr3,w3⟩;rcases turn i n σ3 H3 w3 with⟨stop,qn⟩|⟨go,N,hN,step⟩
 .refine O7 hp (thn (T.done X rfl rfl rfl hc i pins s3 σ3 H3 X.xe I3 (stat fr3) st3 stop) fun r s4 ⟨hr,I4⟩=>?_);subst hr;exact Z8 ⟨σ3,H3,I4,qn⟩
 .refine O7 hp (thn (T.item X rfl rfl rfl hc i pins s3 σ3 H3 X.xe I3 (stat fr3) st3 go) fun r s4 ⟨u,hr,h4⟩=>?_);subst hr;refine O7 hp (thn h4 fun _ s5 ⟨x,H5,I5,r5,y5,st5,fr5⟩=>?_);have I5':=I5.pinned (stat fr5) (T.obj _ _ st5);refine O7 hp (thn (hg _ s5 σ3 H5 x u _ I5' r5 (step x H5 y5)) fun _ s6 ⟨σ6,H6,I6,q6⟩=>?_);refine O7 hp (thn (hb _ s6 σ6 H6 _ I6 q6) fun f s7 q7=>?_)
  have again:∀{σ7:St}{H7:Hp},Inv X (pins++vL fp s5.heap) σ7 H7 s7->N σ7 H7->∃m,m<n/\∃i σ' H',Inv X pins σ' H' s7/\tn i s7.heap/\(∀b∈fp,H' b=none)/\W i m σ' H':=fun{σ7 H7} I7 n7=>by
   obtain⟨m',hm,w7⟩:=hN σ7 H7 n7;refine⟨m',hm,i+1,σ7,H7,I7.unpinned,T.keep _ _ _ st5 fun b hb o e=>(I7.pin (b,o) (B9 _ (B9 _ (gI hb e)))).1,fun b hb=>?_,w7⟩;obtain⟨o,e,d⟩:=T.obj _ _ st5 b hb;exact(I7.pin (b,o) (B9 _ (B9 _ (gI hb e)))).2.1
  cases f with
  |next=>obtain⟨σ7,H7,I7,n7⟩:=q7;exact again I7 n7
  |cont=>obtain⟨σ7,H7,I7,n7⟩:=q7;exact again I7 n7
  |brk=>obtain⟨σ7,H7,I7,q7⟩:=q7;exact⟨σ7,H7,I7.unpinned,q7⟩
  |ret v=>obtain⟨x7,σ7,H7,I7,r7,q7⟩:=q7;exact⟨x7,σ7,H7,I7.unpinned,r7,q7⟩
end
noncomputable abbrev R2:=V->V->Hp->VK->Prop
noncomputable def OpR(X:Cx)(f:Value->Value->Sem Value)(r:R2):Prop:=
 ∀(pins:List (Addr×Obj))(s:Shared)(σ:St)(H:Hp)(x y:V)(v u:Value)(Q:VK),Inv X pins σ H s->RelV x v->RelV y u->r x y H Q->
  wpAny (model X.prog X.w) X.A (f v u) (EP X pins σ Q) X.xe s
noncomputable def UnR(X:Cx)(f:Value->Sem Value)(r:V->Hp->VK->Prop):Prop:=
 ∀(pins:List (Addr×Obj))(s:Shared)(σ:St)(H:Hp)(x:V)(v:Value)(Q:VK),Inv X pins σ H s->RelV x v->r x H Q->
  wpAny (model X.prog X.w) X.A (f v) (EP X pins σ Q) X.xe s
noncomputable def eD(X:Cx)(f:Value)(r:List V->Hp->VK->Prop):Prop:=
 ∀(pins:List (Addr×Obj))(s:Shared)(σ:St)(H:Hp)(xs:List V)(us:List Value)(Q:VK),Inv X pins σ H s->bC xs us->r xs H Q->
  wpAny (model X.prog X.w) X.A (call f us) (EP X pins σ Q) X.xe s
noncomputable def aIZ(X:Cx)(r:V->Hp->(Bool->Hp->Prop)->Prop):Prop:=
 ∀(pins:List (Addr×Obj))(s:Shared)(σ:St)(H:Hp)(x:V)(v:Value)(Q:Bool->Hp->Prop),Inv X pins σ H s->RelV x v->r x H Q->
  wpAny (model X.prog X.w) X.A (truthy v) (TP X pins σ Q) X.xe s
noncomputable def tOp(r:R2)(ta tb:TE):TE:=fun σ H Q=>ta σ H fun x H1=>tb σ H1 fun y H2=>r x y H2 Q
noncomputable def tUn(r:V->Hp->VK->Prop)(ta:TE):TE:=fun σ H Q=>ta σ H fun x H1=>r x H1 Q
noncomputable def rI(C:Int->Int->Prop)(g:Int->Int->V):R2:=fun x y H Q=>∃i j,x=.int i/\y=.int j/\C i j/\Q (g i j) H
noncomputable def rI0(g:Int->Int->V):R2:=fun x y H Q=>∃i j,x=.int i/\y=.int j/\Q (g i j) H
noncomputable def rU(g:Int->V):V->Hp->VK->Prop:=fun x H Q=>∃i,x=.int i/\Q (g i) H
section
variable{X:Cx}{a b c:Expr}{ta tb tc:TE}{pos:Pos}
theorem aFe(ha:PE X a ta)(hb:PE X b tb){pins:List (Addr×Obj)}{R:V->V->Hp->Prop}(I:Inv X pins σ H s)
 (h:ta σ H fun x H1=>tb σ H1 fun y H2=>R x y H2) {Q:Value->Shared->Prop} {f:Value->Value->Sem Value}
 (hf:∀v u s2 x y H2,Inv X pins σ H2 s2->RelV x v->RelV y u->R x y H2->wpAny (model X.prog X.w) X.A (f v u) Q X.xe s2):
 wpAny (model X.prog X.w) X.A (eval a X.env) (fun v s₁=>wpAny (model X.prog X.w) X.A (eval b X.env) (fun u s₂=>wpAny (model X.prog X.w) X.A (f v u) Q X.xe s₂) X.xe s₁) X.xe s:=by
 refine thn (ha pins s σ H _ I h) fun v s1 ⟨x,H1,I1,r1,q1⟩=>?_;refine thn (hb pins s1 σ H1 _ I1 q1) fun u s2 ⟨y,H2,I2,r2,q2⟩=>?_;exact hf v u s2 x y H2 I2 r1 r2 q2
theorem aHp{op:Operator}{r:R2}(ho:OpR X (binaryOp op) r)(ha:PE X a ta)(hb:PE X b tb):PE X (.BinOp a op b pos) (tOp r ta tb):=by
 intro pins s σ H Q I h;exact wpAny_BinOp (aFe ha hb I h fun v u s2 x y H2 I2 rx ry q=>ho pins s2 σ H2 x y v u Q I2 rx ry q)
theorem aHB{op:UnaryOp}{r:V->Hp->VK->Prop}(ho:UnR X (unaryOp op) r)(ha:PE X a ta):PE X (.UnaryOp op a pos) (tUn r ta):=by
 intro pins s σ H Q I h;exact UnaryOp_ (thn (ha pins s σ H _ I h) fun v s1 ⟨x,H1,I1,r1,q1⟩=>ho pins s1 σ H1 x v Q I1 r1 q1)
theorem opI{f:Value->Value->Sem Value}{C:Int->Int->Prop}{g:Int->Int->Int}
 (rule:∀(i j:Int)(t u:Tok)(s:Shared)(Q:Value->Shared->Prop)(E:Value->Shared->Prop),C i j->Q (.int (g i j) s.toks) { s with toks:=s.toks+1 }->wpAny (model X.prog X.w) X.A (f (.int i t) (.int j u)) Q E s):
 OpR X f (rI C fun i j=>.int (g i j)):=by
 intro pins s σ H x y v u Q I rx ry h;obtain⟨i,j,rfl,rfl,hc,q⟩:=h;obtain⟨t,rfl⟩:=rx;obtain⟨t',rfl⟩:=ry;exact rule i j t t' s _ _ hc ⟨.int (g i j),H,I.tok _,⟨_,rfl⟩,q⟩
theorem aIp{f:Value->Value->Sem Value}{g:Int->Int->Int}
 (rule:∀(i j:Int)(t u:Tok)(s:Shared)(Q:Value->Shared->Prop)(E:Value->Shared->Prop),Q (.int (g i j) s.toks) { s with toks:=s.toks+1 }->wpAny (model X.prog X.w) X.A (f (.int i t) (.int j u)) Q E s):
 OpR X f (rI0 fun i j=>.int (g i j)):=by
 intro pins s σ H x y v u Q I rx ry h;obtain⟨i,j,rfl,rfl,q⟩:=h;obtain⟨t,rfl⟩:=rx;obtain⟨t',rfl⟩:=ry;exact rule i j t t' s _ _ ⟨.int (g i j),H,I.tok _,⟨_,rfl⟩,q⟩
theorem aBg{f:Value->Value->Sem Value}{g:Int->Int->Bool}
 (rule:∀(i j:Int)(t u:Tok)(s:Shared)(Q:Value->Shared->Prop)(E:Value->Shared->Prop),Q (.bool (g i j)) s->wpAny (model X.prog X.w) X.A (f (.int i t) (.int j u)) Q E s):
 OpR X f (rI0 fun i j=>.bl (g i j)):=by
 intro pins s σ H x y v u Q I rx ry h;obtain⟨i,j,rfl,rfl,q⟩:=h;obtain⟨t,rfl⟩:=rx;obtain⟨t',rfl⟩:=ry;exact rule i j t t' s _ _ ⟨.bl (g i j),H,I,rfl,q⟩
noncomputable def aIh(i j:Int):Prop:=0<=j/\j<=1000000/\i.natAbs<2 ^ 64
noncomputable def aGr(i j:Int):Prop:=(-(2 ^ 64)<i/\i<2 ^ 64)\/(-(2 ^ 64)<j/\j<2 ^ 64)
theorem aGr.ok{i j:Int}(h:aGr i j):IntMulOk i j:=by
 rcases h with⟨h1,h2⟩|⟨h1,h2⟩
 .exact .of_left (intBits_le_64 h1 h2)
 .exact .of_right (intBits_le_64 h1 h2)
theorem op_add:OpR X (binaryOp .Add) (rI0 fun i j=>.int (i+j)):=aIp fun _ _ _ _ _ _ _ q=>add_int q
theorem aGA:OpR X (binaryOp .Sub) (rI0 fun i j=>.int (i-j)):=aIp fun _ _ _ _ _ _ _ q=>sub_int q
theorem aFS:OpR X (binaryOp .Mod) (rI (fun _ j=>0<j) fun i j=>.int (i % j)):=opI fun i j _ _ _ _ _ hc q=>by
 have h1:(0:Int)<j:=hc;exact mod_int' (by omega) (by rw[Int.fmod_eq_emod_of_nonneg i (by omega)];exact q)
theorem aFG:OpR X (binaryOp .Pow) (rI aIh fun i j=>.int (i ^ j.toNat)):=opI fun _ _ _ _ _ _ _ hc q=>pow_int_small hc.1 hc.2.1 hc.2.2 q
theorem unI{f:Value->Sem Value}{g:Int->Int}
 (rule:∀(i:Int)(t:Tok)(s:Shared)(Q:Value->Shared->Prop)(E:Value->Shared->Prop),Q (.int (g i) s.toks) { s with toks:=s.toks+1 }->wpAny (model X.prog X.w) X.A (f (.int i t)) Q E s):
 UnR X f (rU fun i=>.int (g i)):=by
 intro pins s σ H x v Q I rx h;obtain⟨i,rfl,q⟩:=h;obtain⟨t,rfl⟩:=rx;exact rule i t s _ _ ⟨.int (g i),H,I.tok _,⟨_,rfl⟩,q⟩
theorem aFV:UnR X (unaryOp .USub) (rU fun i=>.int (-i)):=unI fun _ _ _ _ _ q=>neg_int q
end
noncomputable def aHH:V->V->Bool
 |.non,.non=>true|.non,.int _=>true|.int _,.non=>true|.non,.bl _=>true|.bl _,.non=>true|.non,.str _=>true|.str _,.non=>true
 |.int _,.int _=>true|.bl _,.bl _=>true|.str _,.str _=>true|.byt _,.byt _=>true
 |.int _,.str _=>true|.str _,.int _=>true|.bl _,.str _=>true|.str _,.bl _=>true
 |_,_=>false
noncomputable def rEq:R2:=fun x y H Q=>aHH x y=true/\Q (.bl (decide (x=y))) H
noncomputable def rNe:R2:=fun x y H Q=>aHH x y=true/\Q (.bl (!decide (x=y))) H
theorem OY{i j:Int}:decide (V.int i=V.int j)=(i==j):=by
 rw[S9];simp
theorem VB{i j:Bool}:decide (V.bl i=V.bl j)=(i==j):=by
 rw[S9];simp
theorem OA{i j:Str}:decide (V.str i=V.str j)=(i==j):=by
 rw[S9];simp
theorem QB{i j:Array UInt8}:decide (V.byt i=V.byt j)=(i.toList==j.toList):=by
 rw[S9];cases i;cases j;simp
section
variable{X:Cx}{a b c:Expr}{ta tb tc:TE}{pos:Pos}
theorem bY{pins:List (Addr×Obj)}{Q:VK}{k k':Bool}(I:Inv X pins σ H s)(q:Q (.bl k) H)(e:k=k'):EP X pins σ Q (.bool k') s:=by
 subst e;exact⟨.bl k,H,I,rfl,q⟩
theorem op_eq:OpR X (compareOp .Eq) rEq:=by
 intro pins s σ H x y v u Q I rx ry h;obtain⟨hs,q⟩:=h;cases x with
 |non=>
  cases rx;cases y with
  |non=>cases ry;exact PySem.EqNone.eq_none_none (bY I q (by simp))
  |bl j=>cases ry;exact PySem.EqNone.eq_none_bool (bY I q (by simp))
  |int j=>obtain⟨t',rfl⟩:=ry;exact PySem.EqNone.eq_none_int (bY I q (by simp))
  |str j=>obtain⟨t',rfl⟩:=ry;exact PySem.EqNone.eq_none_str (bY I q (by simp))
  |_=>exact absurd (show false=true from hs) A6
 |bl i=>
  cases rx;cases y with
  |non=>cases ry;exact PySem.EqNone.eq_bool_none (bY I q (by simp))
  |bl j=>cases ry;exact eq_bool (bY I q VB)
  |str j=>obtain⟨t',rfl⟩:=ry;exact PySem.EqMixed.eq_bool_str (bY I q (by simp))
  |_=>exact absurd (show false=true from hs) A6
 |int i=>
  obtain⟨t,rfl⟩:=rx;cases y with
  |non=>cases ry;exact PySem.EqNone.eq_int_none (bY I q (by simp))
  |int j=>obtain⟨t',rfl⟩:=ry;exact eq_int (bY I q OY)
  |str j=>obtain⟨t',rfl⟩:=ry;exact PySem.EqMixed.eq_int_str (bY I q (by simp))
  |_=>exact absurd (show false=true from hs) A6
 |str i=>
  obtain⟨t,rfl⟩:=rx;cases y with
  |non=>cases ry;exact PySem.EqNone.eq_str_none (bY I q (by simp))
  |bl j=>cases ry;exact PySem.EqMixed.eq_str_bool (bY I q (by simp))
  |int j=>obtain⟨t',rfl⟩:=ry;exact PySem.EqMixed.eq_str_int (bY I q (by simp))
  |str j=>obtain⟨t',rfl⟩:=ry;exact eq_str (bY I q OA)
  |_=>exact absurd (show false=true from hs) A6
 |byt i=>
  obtain⟨t,rfl⟩:=rx;cases y with
  |byt j=>obtain⟨t',rfl⟩:=ry;exact PySem.W.eq_bytes (bY I q QB)
  |_=>exact absurd (show false=true from hs) A6
 |_=>cases y<;>exact absurd (show false=true from hs) A6
theorem op_ne:OpR X (compareOp .NotEq) rNe:=by
 intro pins s σ H x y v u Q I rx ry h;obtain⟨hs,q⟩:=h;cases x with
 |non=>
  cases rx;cases y with
  |non=>cases ry;exact PySem.EqNone.ne_none_none (bY I q (by simp))
  |bl j=>cases ry;exact PySem.EqNone.ne_none_bool (bY I q (by simp))
  |int j=>obtain⟨t',rfl⟩:=ry;exact PySem.EqNone.ne_none_int (bY I q (by simp))
  |str j=>obtain⟨t',rfl⟩:=ry;exact PySem.EqNone.ne_none_str (bY I q (by simp))
  |_=>exact absurd (show false=true from hs) A6
 |bl i=>
  cases rx;cases y with
  |non=>cases ry;exact PySem.EqNone.ne_bool_none (bY I q (by simp))
  |bl j=>cases ry;exact ne_bool (bY I q (O6 not VB))
  |str j=>obtain⟨t',rfl⟩:=ry;exact PySem.EqMixed.ne_bool_str (bY I q (by simp))
  |_=>exact absurd (show false=true from hs) A6
 |int i=>
  obtain⟨t,rfl⟩:=rx;cases y with
  |non=>cases ry;exact PySem.EqNone.ne_int_none (bY I q (by simp))
  |int j=>obtain⟨t',rfl⟩:=ry;exact ne_int (bY I q (O6 not OY))
  |str j=>obtain⟨t',rfl⟩:=ry;exact PySem.EqMixed.ne_int_str (bY I q (by simp))
  |_=>exact absurd (show false=true from hs) A6
 |str i=>
  obtain⟨t,rfl⟩:=rx;cases y with
  |non=>cases ry;exact PySem.EqNone.ne_str_none (bY I q (by simp))
  |bl j=>cases ry;exact PySem.EqMixed.ne_str_bool (bY I q (by simp))
  |int j=>obtain⟨t',rfl⟩:=ry;exact PySem.EqMixed.ne_str_int (bY I q (by simp))
  |str j=>obtain⟨t',rfl⟩:=ry;exact ne_str (bY I q (O6 not OA))
  |_=>exact absurd (show false=true from hs) A6
 |byt i=>
  obtain⟨t,rfl⟩:=rx;cases y with
  |byt j=>obtain⟨t',rfl⟩:=ry;exact PySem.W.ne_bytes (bY I q (O6 not QB))
  |_=>exact absurd (show false=true from hs) A6
 |_=>cases y<;>exact absurd (show false=true from hs) A6
theorem aHm:OpR X (compareOp .Lt) (rI0 fun i j=>.bl (decide (i<j))):=aBg fun _ _ _ _ _ _ _ q=>lt_int q
theorem aHs:OpR X (compareOp .LtE) (rI0 fun i j=>.bl (decide (i<=j))):=aBg fun _ _ _ _ _ _ _ q=>le_int q
theorem aHq:OpR X (compareOp .Gt) (rI0 fun i j=>.bl (decide (j<i))):=aBg fun _ _ _ _ _ _ _ q=>gt_int q
theorem aHa:OpR X (compareOp .GtE) (rI0 fun i j=>.bl (decide (j<=i))):=aBg fun _ _ _ _ _ _ _ q=>ge_int q
theorem OpR.or{f:Value->Value->Sem Value}{r r':R2}(h:OpR X f r)(h':OpR X f r'):OpR X f (fun x y H Q=>r x y H Q\/r' x y H Q):=by
 intro pins s σ H x y v u Q I rx ry q;rcases q with q|q
 .exact h pins s σ H x y v u Q I rx ry q
 .exact h' pins s σ H x y v u Q I rx ry q
theorem aBw{op:CmpOp}{r:R2}(ho:OpR X (compareOp op) r)(ha:PE X a ta)(hb:PE X b tb)(hm:behindInMarks op b=false):PE X (.Compare a [op] [b] pos) (tOp r ta tb):=by
 intro pins s σ H Q I h;exact wpAny_Compare1 (aFe ha hb I h fun v u s2 x y H2 I2 rx ry q=>ho pins s2 σ H2 x y v u Q I2 rx ry q) hm
noncomputable def aDi(t:TE):TT:=fun σ H Q=>t σ H fun x H'=>∃k,x=.bl k/\Q k H'
theorem aCR{op:CmpOp}{r:R2}(ho:OpR X (compareOp op) r)(ha:PE X a ta)(hb:PE X b tb)(hm:behindInMarks op b=false):PT X (.Compare a [op] [b] pos) (aDi (tOp r ta tb)):=by
 intro pins s σ H Q I h
 refine wpAny_isTrue_Compare1 (thn (ha pins s σ H _ I h) fun v s1 ⟨x,H1,I1,r1,q1⟩=>thn (hb pins s1 σ H1 _ I1 q1) fun u s2 ⟨y,H2,I2,r2,q2⟩=>
  thn (ho pins s2 σ H2 x y v u _ I2 r1 r2 q2) fun c s3 ⟨z,H3,I3,r3,k,e,q3⟩=>?_) hm
 subst e;cases r3;exact J2 ⟨H3,I3,q3⟩
noncomputable def aAc(r r':R2)(ta tb tc:TE):TE:=fun σ H Q=>ta σ H fun x H1=>tb σ H1 fun y H2=>r x y H2 fun z H3=>∃k,z=.bl k /\
 (if k=true then tc σ H3 fun w' H4=>r' y w' H4 Q else Q (.bl false) H3)
theorem UK{op op':CmpOp}{r r':R2}(ho:OpR X (compareOp op) r)(ho':OpR X (compareOp op') r')(ha:PE X a ta)(hb:PE X b tb)(hc:PE X c tc)
 (hm:lastMarks [op,op'] [b,c]=false:=by with_unfolding_all rfl):PE X (.Compare a [op,op'] [b,c] pos) (aAc r r' ta tb tc):=by
 intro pins s σ H Q I h
 refine Compare_chain (thn (ha pins s σ H _ I h) fun v s1 ⟨x,H1,I1,r1,q1⟩=>chain_link (thn (hb pins s1 σ H1 _ I1 q1) fun u s2 ⟨y,H2,I2,r2,q2⟩=>
  thn (ho pins s2 σ H2 x y v u _ I2 r1 r2 q2) fun d s3 ⟨z,H3,I3,r3,k,e,q3⟩=>?_)) hm
 subst e;cases r3;refine J2 ?_;cases k with
 |false=>exact ite_ff ⟨.bl false,H3,I3,rfl,q3⟩
 |true=>exact ite_tt (chain_last (thn (hc pins s3 σ H3 _ I3 q3) fun w' s4 ⟨z',H4,I4,r4,q4⟩=>ho' pins s4 σ H4 y z' u w' Q I4 r2 r4 q4))
noncomputable def aAY(K:Fg)(x:V)(H:Hp)(k:Bool):Prop:=
 match x with
 |.non=>k=false
 |.bl b=>k=b
 |.int i=>k=(i != 0)
 |.str y=>y.length<=sizeLine/\k=((y.length:Int) != 0)
 |.byt y=>y.size<=sizeLine/\k=((y.size:Int) != 0)
 |.ref p=>(∃xs,SqL K H p xs/\k=!xs.isEmpty)\/(∃xs,SqT K H p xs/\k=!xs.isEmpty)\/∃kvs,H p=some (.dK kvs)/\k=!kvs.isEmpty
 |_=>False
theorem NB{κ:Type}{kvs:List (κ×V)}{vs:List (κ×Value)}(r:KV kvs vs):(!vs.isEmpty)=!kvs.isEmpty:=by
 cases r<;>rfl
theorem yE{xs:List V}{its:List Value}(r:bC xs its):(!its.toArray.isEmpty)=!xs.isEmpty:=by
 cases r<;>simp
theorem vQ:(sizeLine:Nat)<2 ^ 63:=by rw[D5];decide
theorem aGM:aIZ X (fun x H Q=>∃k,aAY X.K x H k/\Q k H):=by
 intro pins s σ H x v Q I rx h;obtain⟨k,e,q⟩:=h;have hl:=vQ;have hs:sizeLine=16777216:=D5;cases x with
 |non=>
  cases rx;have e':k=false:=e;subst e';exact truthy_none ⟨H,I,q⟩
 |bl b=>
  cases rx;have e':k=b:=e;subst e';exact J2 ⟨H,I,q⟩
 |int i=>
  obtain⟨t,rfl⟩:=rx;have e':k=(i != 0):=e;subst e';exact PySem.P.truthy_int ⟨H,I,q⟩
 |str y=>
  obtain⟨t,rfl⟩:=rx;obtain⟨hy,e'⟩:y.length<=sizeLine/\k=((y.length:Int) != 0):=e;subst e';exact PySem.P.truthy_str (by omega) ⟨H,I.tok _,q⟩
 |byt y=>
  obtain⟨t,rfl⟩:=rx;obtain⟨hy,e'⟩:y.size<=sizeLine/\k=((y.size:Int) != 0):=e;subst e';exact PySem.W.truthy_bytes (by omega) ⟨H,I.tok _,q⟩
 |ref p=>
  cases rx;have e':(∃xs,SqL X.K H p xs/\k=!xs.isEmpty)\/(∃xs,SqT X.K H p xs/\k=!xs.isEmpty)\/∃kvs,H p=some (.dK kvs)/\k=!kvs.isEmpty:=e;rcases e' with⟨xs,hx,e'⟩|⟨xs,hx,e'⟩|⟨kvs,hx,e'⟩
  .subst e';obtain⟨its,r,pl,hz⟩:=I.list hx;have hlen:=r.length;exact wpAny_truthy_list pl.isList (by simp only[List.size_toArray];omega) ⟨H,I.tok _,by rw[yE r];exact q⟩
  .subst e';obtain⟨its,r,pl,hz⟩:=I.tuple hx;have hlen:=r.length;exact truthy_tuple pl (by simp only[List.size_toArray];omega) ⟨H,I.tok _,by rw[yE r];exact q⟩
  .subst e';obtain⟨hz,hS,vs,r,m⟩:kvs.length<=sizeLine/\(p==sysModules)=false/\∃vs,KV kvs vs/\s.heap.DictOf (cS X.prog X.w) p vs:=I.hok p _ hx;have hlen:kvs.length=vs.length:=Z4 r;exact wpAny_truthy_dict hS m (by omega) ⟨H,I.tok _,by rw[NB r];exact q⟩
 |_=>exact(show False from e).elim
theorem UQ(ha:PE X a ta)(he:∀whole,isTrue a X.env whole=(do let v <- whole;standAt a.pos;holding [v] (truthy v))):
 PT X a (fun σ H Q=>ta σ H fun x H'=>∃k,aAY X.K x H' k/\Q k H'):=by
 intro pins s σ H Q I h;exact isTrue_plain (thn (ha pins s σ H _ I h) fun v s1 ⟨x,H1,I1,r1,q1⟩=>aGM pins s1 σ H1 x v Q I1 r1 q1) (he _)
theorem vals1{x:V}{us:List Value}(r:bC [x] us):∃u,us=[u]/\RelV x u:=by
 cases r with
 |cons r1 r2=>cases r2;exact⟨_,rfl,r1⟩
theorem vals2{x y:V}{us:List Value}(r:bC [x,y] us):∃u w',us=[u,w']/\RelV x u/\RelV y w':=by
 cases r with
 |cons r1 r2=>
  cases r2 with
  |cons r3 r4=>cases r4;exact⟨_,_,rfl,r1,r3⟩
theorem QY(hc:X.calm=true):eD X (.builtin "max") (fun xs H Q=>∃i j,xs=[.int i,.int j]/\Q (.int (if j > i then j else i)) H):=by
 intro pins s σ H xs us Q I r h;obtain⟨i,j,rfl,q⟩:=h;obtain⟨u,w',rfl,⟨t,rfl⟩,⟨t',rfl⟩⟩:=vals2 r;refine max_two_ints (I.ok.hd hc) fun h' tk k=>⟨_,H,I.kept k,?_,q⟩;by_cases hj:j > i
 .rw[A4 hj,A4 hj];exact⟨_,rfl⟩
 .rw[A5 hj,A5 hj];exact⟨_,rfl⟩
theorem QV(hc:X.calm=true):eD X (.builtin "min") (fun xs H Q=>∃i j,xs=[.int i,.int j]/\Q (.int (if j<i then j else i)) H):=by
 intro pins s σ H xs us Q I r h;obtain⟨i,j,rfl,q⟩:=h;obtain⟨u,w',rfl,⟨t,rfl⟩,⟨t',rfl⟩⟩:=vals2 r;refine min_two_ints (I.ok.hd hc) fun h' tk k=>⟨_,H,I.kept k,?_,q⟩;by_cases hj:j<i
 .rw[A4 hj,A4 hj];exact⟨_,rfl⟩
 .rw[A5 hj,A5 hj];exact⟨_,rfl⟩
theorem TB:eD X (.type "int") (fun xs H Q=>(∃i,xs=[.int i]/\Q (.int i) H)\/∃k,xs=[.bl k]/\Q (.int (if k then 1 else 0)) H):=by
 intro pins s σ H xs us Q I r h;rcases h with⟨i,rfl,q⟩|⟨k,rfl,q⟩
 .obtain⟨u,rfl,t,rfl⟩:=vals1 r;exact call_int_int ⟨.int i,H,I,⟨_,rfl⟩,q⟩
 .obtain⟨u,rfl,r1⟩:=vals1 r;cases r1;exact call_int_bool ⟨.int (if k then 1 else 0),H,I.tok _,⟨_,rfl⟩,q⟩
end
structure NP(h:Heap)(x dx C:Addr)(mA:Str->Option Value):Prop where
 obj:h.get? x=some (PySem.W.instObj C dx)
 ns:h.Ns1 dx mA
 ne:dx≠x
theorem TC{h:Heap}{dx:Addr}{mA:Str->Option Value}(n:h.Ns1 dx mA):∃od,h.get? dx=some od/\∀name,PySem.W.lookIn name od=some (mA name):=by
 obtain⟨o,es,ep,ho,hd,hk,_,hm⟩:=n;refine⟨o,ho,fun name=>?_⟩;have e:=hm name;unfold nsFind findBy at e;rw[<- Array.find?_toList]at e;unfold PySem.W.lookIn;rw[hd];dsimp only;split
 .rename_i y q;rw[q]at e;exact O6 some e
 .rename_i q;rw[q]at e
  have a:es.toList.any (·.refKey)=false:=by
   rw[List.any_eq_false];intro y hy;obtain⟨z,t,hkey⟩:=hk y (Array.mem_toList_iff.mp hy);simp[DictEntry.refKey,hkey]
  have a':¬es.toList.any (·.refKey)=true:=by rw[a];exact A6
  rw[A5 a'];exact O6 some e
theorem NP.look{h:Heap}{x dx C:Addr}{mA:Str->Option Value}(I:NP h x dx C mA):∃od,PySem.W.InstAt h x (PySem.W.instObj C dx) C (some od)/\∀name,PySem.W.lookIn name od=some (mA name):=
 let⟨od,ho,hl⟩:=TC I.ns
 ⟨od,⟨I.obj,rfl,rfl,ho⟩,hl⟩
section
variable{prog:Program}{w:World}{A:Around}{E:Value->Shared->Prop}{s:Shared}{K:Fg}{x dx C f:Addr}{mA:Str->Option Value}{name:Str}{v:Value}
theorem get_map{expr:Bool}{Q:Value->Shared->Prop}(X:K.In s.heap)(I:NP s.heap x dx C mA)(hg:PySem.W.plainGet K C name=true)(hh:PySem.W.hasDictIn K C=true)
 (ha:PySem.W.findIn K (.ref C) name=some none) (hv:mA name=some v) (hv':PySem.W.handedIn v=true) (h:Q v { s with toks:=s.toks+1 }):
 wpAny (model prog w) A (getAttr (.ref x) name expr) Q E s:=by
 obtain⟨od,J,hl⟩:=I.look;exact PySem.W.get_value X J (PySem.W.plainGet_of hg).1 (PySem.W.findObj_own hh ha rfl (by rw[hl,hv])) hv' h
theorem VJ{pl:Sem Bool}{Q:Value×List Value->Shared->Prop}(X:K.In s.heap)(I:NP s.heap x dx C mA)(hg:PySem.W.plainGet K C name=true)
 (hf:PySem.W.findIn K (.ref C) name=some (some (.ref f))) (ht:PySem.W.isFn K (.ref f)=true) (hv:mA name=none) (h:Q (.ref f,[.ref x]) s):
 wpAny (model prog w) A (getMethod (.ref x) name pl) Q E s:=by
 obtain⟨od,J,hl⟩:=I.look;exact PySem.W.method_fn X J (PySem.W.plainGet_of hg).1 (PySem.W.plainGet_of hg).2 hf (beq_iff_eq.mp ht) (by show(PySem.W.lookIn name od).map (·.isSome)=some false;rw[hl,hv];rfl) h
theorem aBc{ns:List Str}{Q:Unit->Shared->Prop}(X:K.In s.heap)(I:NP s.heap x dx C mA)
 (hs:PySem.W.findIn K (.ref C) "__setattr__"=some (some (.builtin "object.__setattr__"))) (hp:PySem.W.plainOver K C=true) (ht:PySem.W.takerIn K C name=some none) (hh:PySem.W.hasDictIn K C=true)
 (hw:PySem.Within mA ns) (hsz:ns.length<=sizeLine)
 (h:∀h',NP h' x dx C (fun y=>if y=name then some v else mA y)->Heap.SameBut dx s.heap h'->Q () { s with heap:=h',toks:=s.toks+2 }):
 wpAny (model prog w) A (setAttr (.ref x) name v) Q E s:=by
 obtain⟨od,J,hl⟩:=I.look;refine PySem.W.set_plain X J hs (PySem.W.osa_open (s:={ s with toks:=s.toks+1 }) (r:=none) X J hp ht fun b=>?_);obtain⟨cd,hc,hd'⟩:=PySem.W.any_some hh;have hx:s.heap.get? x=some ⟨.ref C,some dx,.plain,#[]⟩:=I.obj;refine A0 (A3 (A0 (A0 (wpAny_loadPart hx (A0 (J9 (s:={ s with toks:=s.toks+1 }) (PySem.W.looks_clsIn X hc) ?_))))));rw[hd'];refine A3 (a:=some dx) (A0 (A3 (A0 ?_)));refine wpAny_nsSet1 (s:={ s with toks:=s.toks+1 }) I.ns fun h' hn2 hs2=>?_;obtain⟨oD,esD,epD,hoD,hdD,hcD⟩:=hn2.count (PySem.Within.cons name v hw);refine A0 (wpAny_lookBehind hoD (by rw[hdD];exact pastItsLine_dict (D3 hcD (by rw[C7];omega))) ?_);exact A3 (h _ ⟨(hs2.2 _ (F0 I.ne)).trans I.obj,hn2,I.ne⟩ hs2)
theorem aAf{R:Result->Shared->Prop}{vs:List Value}{kw:List (Str×Value)}(X:K.In s.heap)(hm:PySem.W.makesIn K C=true)
 (hi:PySem.W.findIn K (.ref C) "__init__"=some (some (.ref f))) (hf:PySem.W.typeIn K (.ref f)=some (.type "function"))
 (h:codeAny (model prog w) (A.under (.builtin "type.__call__" ⟨.ref C::vs,kw⟩)) (.call (.ref f) ⟨.ref (s.heap.objs.size+1)::vs,kw⟩) (PySem.W.InitBack (s.heap.objs.size+1) R)
  { s with heap:=(s.heap.push PySem.W.emptyDict).push (PySem.W.instObj C s.heap.objs.size) }):
 codeAny (model prog w) A (.call (.ref C) ⟨vs,kw⟩) R s:=by
 obtain⟨hh,g,d,t,os⟩:=s;exact PySem.W.make_core (PySem.W.makes_of X hm) (O8 X hi) (fun self=>PySem.W.bind_fn X self hf) (.inl rfl) h
end
noncomputable def mJ(f:Str)(v:V):List (Str×V)->List (Str×V)
 |[]=>[(f,v)]
 |(g,x)::r=>if g=f then(g,v)::r else(g,x)::mJ f v r
theorem wR(f g:Str)(v:V):∀fs:List (Str×V),(mJ f v fs).lookup g=if g=f then some v else fs.lookup g
 |[]=>by
  show List.lookup g [(f,v)]=_;by_cases h:g=f
  .have hb:(g==f)=true:=beq_iff_eq.mpr h;simp only[List.lookup,hb,if_pos h]
  .have hb:(g==f)=false:=beq_eq_false_iff_ne.mpr h;simp only[List.lookup,hb,if_neg h]
 |(k,x)::r=>by
  have ih:=wR f g v r;rw[show mJ f v ((k,x)::r)=(if k=f then(k,v)::r else(k,x)::mJ f v r)from rfl];by_cases hk:k=f
  .rw[A4 hk];by_cases h:g=k
   .have hb:(g==k)=true:=beq_iff_eq.mpr h;simp only[List.lookup,hb,if_pos (h.trans hk)]
   .have hb:(g==k)=false:=beq_eq_false_iff_ne.mpr h;simp only[List.lookup,hb,if_neg (fun e:g=f=>h (e.trans hk.symm))]
  .rw[A5 hk];by_cases h:g=k
   .have hb:(g==k)=true:=beq_iff_eq.mpr h;simp only[List.lookup,hb,if_neg (fun e:g=f=>hk (h.symm.trans e))]
   .have hb:(g==k)=false:=beq_eq_false_iff_ne.mpr h;simp only[List.lookup,hb];exact ih
theorem vV(f:Str)(v:V):∀fs:List (Str×V),f∈(mJ f v fs).map (·.1)/\∀g,g∈fs.map (·.1)->g∈(mJ f v fs).map (·.1)
 |[]=>⟨by simp[mJ],fun g h=>by simp at h⟩
 |(k,x)::r=>by
  obtain⟨i1,i2⟩:=vV f v r;rw[show mJ f v ((k,x)::r)=(if k=f then(k,v)::r else(k,x)::mJ f v r)from rfl];by_cases hk:k=f
  .rw[A4 hk];subst hk;exact⟨by simp,fun g h=>by simpa using h⟩
  .rw[A5 hk];refine⟨?_,fun g h=>?_⟩
   .rw[C3];exact B4 _ i1
   .rw[C3]at h ⊢;rcases List.mem_cons.mp h with e|e
    .exact List.mem_cons.mpr (.inl e)
    .exact B4 _ (i2 g e)
theorem wZ(f:Str)(v:V):∀fs:List (Str×V),(mJ f v fs).length<=fs.length+1
 |[]=>by simp[mJ]
 |(k,x)::r=>by
  have ih:=wZ f v r;rw[show mJ f v ((k,x)::r)=(if k=f then(k,v)::r else(k,x)::mJ f v r)from rfl];by_cases hk:k=f
  .rw[A4 hk,C7,C7];omega
  .rw[A5 hk,C7,C7];omega
theorem nJ.some_of{v:V}{o:Option Value}(r:nJ (some v) o):∃u,o=some u/\RelV v u:=by
 cases o with
 |none=>exact(show False from r).elim
 |some u=>exact⟨u,rfl,r⟩
theorem nJ.none_of{o:Option Value}(r:nJ none o):o=none:=by
 cases o with
 |none=>rfl
 |some u=>exact(show False from r).elim
theorem TY{v:V}{u:Value}(r:RelV v u):PySem.W.handedIn u=true:=by
 cases v with
 |non=>cases (show u=Value.none from r);rfl
 |bl b=>cases (show u=Value.bool b from r);rfl
 |int i=>obtain⟨t,e⟩:=(show ∃t,u=Value.int i t from r);cases e;rfl
 |str x=>obtain⟨t,e⟩:=(show ∃t,u=Value.str x t from r);cases e;rfl
 |byt b=>obtain⟨t,e⟩:=(show ∃t,u=Value.bytes b t from r);cases e;rfl
 |flt b=>obtain⟨t,e⟩:=(show ∃t,u=Value.float b t from r);cases e;rfl
 |ref a=>cases (show u=Value.ref a from r);rfl
 |ty n=>cases (show u=Value.type n from r);rfl
section
variable{P:Program}{w:World}{H H':Hp}{h h':Heap}{a C dx:Addr}{fs fs':List (Str×V)}
theorem FC(hok:HOk P w H h)(e:H a=some (.ins C dx fs)):∃mA,NP h a dx C mA/\(∀f,nJ (fs.lookup f) (mA f))/\PySem.Within mA (fs.map (·.1))/\fs.length<=1000/\H dx=some (.own a):=by
 obtain⟨d,z,ne,ob,mA,n,r,q⟩:=(show cK P w H h a (.ins C dx fs)from hok a _ e);exact⟨mA,⟨ob,n,ne⟩,r,q,z,d⟩
end
structure Cls(K:Fg)(C:Addr):Prop where
 pg:PySem.W.plainGet K C Str.empty=true
 hd:PySem.W.hasDictIn K C=true
 po:PySem.W.plainOver K C=true
 sa:PySem.W.findIn K (.ref C) "__setattr__"=some (some (.builtin "object.__setattr__"))
theorem Cls.get{C:Addr}(c:Cls K C)(f:Str):PySem.W.plainGet K C f=true:=c.pg
noncomputable def eX(K:Fg)(C:Addr)(f:Str):Prop:=PySem.W.findIn K (.ref C) f=some none
theorem eX.taker{C:Addr}{f:Str}(n:eX K C f):PySem.W.takerIn K C f=some none:=by
 unfold PySem.W.takerIn;rw[show PySem.W.findIn K (.ref C) f=some none from n];rfl
structure aBK(K:Fg)(C:Addr)(m:Str)(f:Addr):Prop where
 at_:PySem.W.findIn K (.ref C) m=some (some (.ref f))
 fn:PySem.W.isFn K (.ref f)=true
 kp:PySem.W.keepIn K (.ref f)=true
section
variable{X:Cx}{pins:List (Addr×Obj)}{σ:St}{H:Hp}{s:Shared}{a C dx:Addr}{fs:List (Str×V)}{f:Str}{v:V}{A:Around}{E:Value->Shared->Prop}
theorem MP{b:Bool}{Q:Value->Shared->Prop}(I:Inv X pins σ H s)(e:H a=some (.ins C dx fs))(c:Cls X.K C)(n:eX X.K C f)(l:fs.lookup f=some v)
 (h:∀u s',Inv X pins σ H s'->RelV v u->Q u s'):wpAny (model X.prog X.w) A (getAttr (.ref a) f b) Q E s:=by
 obtain⟨mA,O,r,_,_,_⟩:=FC I.hok e;obtain⟨u,hu,ru⟩:=nJ.some_of (v:=v) (o:=mA f) (by rw[<- l];exact r f);exact get_map I.kIn O (c.get f) c.hd n hu (TY ru) (h u _ (I.tok _) ru)
theorem yF{m:Str}{g:Addr}{pl:Sem Bool}{Q:Value×List Value->Shared->Prop}(I:Inv X pins σ H s)(e:H a=some (.ins C dx fs))(c:Cls X.K C)(k:aBK X.K C m g)(l:fs.lookup m=none)
 (h:Q (.ref g,[.ref a]) s):wpAny (model X.prog X.w) A (getMethod (.ref a) m pl) Q E s:=by
 obtain⟨mA,O,r,_,_,_⟩:=FC I.hok e;have hn:mA m=none:=nJ.none_of (by rw[<- l];exact r m);exact VJ I.kIn O (c.get m) k.at_ k.fn hn h
theorem LL{y:V}{u:Value}{Q:Unit->Shared->Prop}(I:Inv X pins σ H s)(e:H a=some (.ins C dx fs))(c:Cls X.K C)(n:eX X.K C f)(hl:fs.length<1000)(ry:RelV y u)
 (h:∀s',Inv X pins σ (upd H a (.ins C dx (mJ f y fs))) s'->Q () s'):wpAny (model X.prog X.w) A (setAttr (.ref a) f u) Q E s:=by
 obtain⟨mA,O,r,wi,_,ho⟩:=FC I.hok e;have hz:(fs.map (·.1)).length<=sizeLine:=by rw[A9,D5];omega
 refine aBc I.kIn O c.sa c.po n.taker c.hd wi hz fun h' O' sb=>h _ ?_;have hd:∃o,h'.get? dx=some o:=let⟨o,_,_,e',_⟩:=O'.ns;⟨o,e'⟩;refine I.write (x:=a) (e:=dx) (by rw[e];exact True.intro) (.inr ho) (fun b q hb z=>(sb.2 b hb).trans z) hd ?_;refine⟨by rw[aJ O.ne];exact ho,?_,O.ne,O'.obj,_,O'.ns,fun g=>?_,fun g hg=>?_⟩
 .have:=wZ f y fs;omega
 .show nJ ((mJ f y fs).lookup g) (if g=f then some u else mA g);rw[wR];by_cases q:g=f
  .rw[A4 q,A4 q];exact ry
  .rw[A5 q,A5 q];exact r g
 .by_cases q:g=f
  .rw[q];exact(vV f y fs).1
  .refine(vV f y fs).2 g (wi g fun z=>hg ?_);show(if g=f then some u else mA g)=none;rw[A5 q];exact z
theorem Inv.made(I:Inv X pins σ H s):Inv X pins σ (upd (upd H s.heap.objs.size (.own (s.heap.objs.size+1))) (s.heap.objs.size+1) (.ins C s.heap.objs.size []))
 { s with heap:=(s.heap.push PySem.W.emptyDict).push (PySem.W.instObj C s.heap.objs.size) }:=by
 have e1:(s.heap.push PySem.W.emptyDict).get? s.heap.objs.size=some PySem.W.emptyDict:=B0 s.heap rfl
 have e2:((s.heap.push PySem.W.emptyDict).push (PySem.W.instObj C s.heap.objs.size)).get? (s.heap.objs.size+1)=some (PySem.W.instObj C s.heap.objs.size):=by
  have:=B0 (s.heap.push PySem.W.emptyDict) (o:=PySem.W.instObj C s.heap.objs.size) rfl
  rwa [O2]at this
 have e3:(s.heap.push PySem.W.emptyDict).Ns s.heap.objs.size (fun _=>none):=⟨PySem.W.emptyDict,#[],_,e1,rfl,(fun e he=>absurd he (by simp)),fun _=>rfl⟩;have I1:=I.laid (a:=s.heap.objs.size) (o:=.own (s.heap.objs.size+1)) (h':=s.heap.push PySem.W.emptyDict) (t':=s.toks) (fun b u q=>A2 _ q) (A7 _) ⟨_,e1⟩;refine I1.laid (a:=s.heap.objs.size+1) (o:=.ins C s.heap.objs.size []) (t':=s.toks) (fun b u q=>A2 _ q) (Nat.le_of_eq (O2 _ _)) ?_;have ne:s.heap.objs.size≠s.heap.objs.size+1:=B6 (F5 _);refine⟨by rw[aJ ne,aP],E3 _,ne,e2,fun _=>none,(Heap.Ns1.of_empty e3).at fun o q=>A2 _ q,fun _=>True.intro,fun y hy=>absurd rfl hy⟩
theorem aCO{prog:Program}{w:World}{env:Env}{e:Expr}{f:Str}{pos:Pos}{s:Shared}{Q:Value->Shared->Prop}(hb:attributeBase e f env (eval e env)=eval e env)
 (h:wpAny (model prog w) A (eval e env) (fun o s₁=>wpAny (model prog w) A (getAttr o f true) Q E s₁) E s):wpAny (model prog w) A (eval (.Attribute e f pos) env) Q E s:=
 Attribute_any_ h (by rw[arm_eval_Attribute,hb])
end
noncomputable def aBm(K:Fg)(ta:TE)(f:Str):TE:=fun σ H Q=>ta σ H fun x H1=>∃a C dx fs v,x=.ref a/\H1 a=some (.ins C dx fs)/\Cls K C/\eX K C f/\fs.lookup f=some v/\Q v H1
noncomputable def aCI(K:Fg)(ta tv:TE)(f:Str):TS:=fun D σ H=>tv σ H fun y H1=>ta σ H1 fun x H2=>∃a C dx fs,x=.ref a/\H2 a=some (.ins C dx fs)/\Cls K C/\eX K C f/\fs.length<1000 /\
 D.nx σ (upd H2 a (.ins C dx (mJ f y fs)))
section
variable{X:Cx}{o e value:Expr}{f:Str}{pos pos' tpos:Pos}{ta tv:TE}
theorem aAy(he:PE X e ta)(hb:attributeBase e f X.env (eval e X.env)=eval e X.env):PE X (.Attribute e f pos) (aBm X.K ta f):=by
 intro pins s σ H Q I h;refine aCO hb (thn (he pins s σ H _ I h) fun u s1 ⟨x,H1,I1,rx,a,C,dx,fs,v,ex,ea,c,n,l,q⟩=>?_);subst ex;obtain rfl:u=Value.ref a:=rx;exact MP I1 ea c n l fun u' s2 I2 ru=>⟨v,H1,I2,ru,q⟩
theorem YT(ha:PE X o ta)(hv:PE X value tv)(hs:swapsWith value (some (.Attribute o f pos')) pos.line X.env=pure false):PS X (.Assign [.Attribute o f pos'] value pos) (aCI X.K ta tv f):=by
 intro pins s σ H D I h;refine plainObj_wpAny_Assign_Attribute (thn (hv pins s σ H _ I h) fun u s1 ⟨y,H1,I1,ry,q⟩=>thn (ha pins s1 σ H1 _ I1 q) fun ov s2 ⟨x,H2,I2,rx,a,C,dx,fs,ex,ea,c,n,l,q2⟩=>?_) hs;subst ex;obtain rfl:ov=Value.ref a:=rx;exact LL I2 ea c n l ry fun s3 I3=>⟨σ,_,I3,q2⟩
theorem methcall_of{pl:Sem Bool}{m:Str}{apos:Pos}{args:List Expr}{pins:List (Addr×Obj)}{Q:Value->Shared->Prop}{te:TE}(he:PE X e te)(I:Inv X pins σ H s)
 (h:te σ H fun x H1=>∃a C dx fs g,x=.ref a/\H1 a=some (.ins C dx fs)/\Cls X.K C/\aBK X.K C m g/\fs.lookup m=none /\
  ∀s1,Inv X pins σ H1 s1->wpAny (model X.prog X.w) X.A (callWith pos (.ref g) [.ref a] (backTo pos (starEach args X.env)) (backToKw pos (keywordEach [] X.env))) Q X.xe s1)
 (ht:eval (.Call (.Attribute e m apos) args [] pos) X.env=(do
  let ov <- eval e X.env
  standAt apos.atName
  let(f,first) <- holding [ov] (getMethod ov m pl)
  callWith pos f first (backTo pos (starEach args X.env)) (backToKw pos (keywordEach [] X.env)))):
 wpAny (model X.prog X.w) X.A (eval (.Call (.Attribute e m apos) args [] pos) X.env) Q X.xe s:=by
 refine PySem.W.methodCall_KW (pl:=pl) (thn (he pins s σ H _ I h) fun u s1 ⟨x,H1,I1,rx,a,C,dx,fs,g,ex,ea,c,k,l,q⟩=>?_) ht;subst ex;obtain rfl:u=Value.ref a:=rx;exact yF I1 ea c k l (q s1 I1)
end
structure bS(k:Nat)(A:Around)(q:Bool:=true):Prop where
 hd:q=true->A.handled=none
 dp:A.depth+3*k+5<recursionLimit
 un:A.units+16*k+200<cLine
 gd:A.guards=some []
theorem bS.mono{j k:Nat}{q:Bool}(r:bS k A q)(h:j<=k):bS j A q:=⟨r.hd,by have:=r.dp;omega,by have:=r.un;omega,r.gd⟩
theorem bS.deeper{k:Nat}{q:Bool}(r:bS (k+1) A q)(env:Env):bS k (A.deeper env) q:=
 ⟨r.hd,by have:=r.dp;show A.depth+1+3*k+5<_;omega,by have:=r.un;show A.units+3+16*k+200<_;omega,r.gd⟩
theorem NS{C:Addr}{us:List Value}{kw:List (Str×Value)}:(A.under (.builtin "type.__call__" ⟨.ref C::us,kw⟩)).depth=A.depth+1:=by
 first|rfl|simp[Around.under,Code.weight,Code.isCreation,Code.isGuard,Code.isCaller,Code.frames,Code.isFrame,guardIds]
theorem LF{C:Addr}{us:List Value}{kw:List (Str×Value)}:(A.under (.builtin "type.__call__" ⟨.ref C::us,kw⟩)).units=A.units+1:=by
 first|rfl|simp[Around.under,Code.cUnits,Code.frames,Code.isFrame]
theorem JM{C:Addr}{us:List Value}{kw:List (Str×Value)}:(A.under (.builtin "type.__call__" ⟨.ref C::us,kw⟩)).guards=A.guards:=by
 first|rfl|simp[Around.under,Code.guards,pushGuards,Code.isGuard,guardIds]|(unfold Around.under;cases A.guards<;>rfl)
theorem bS.make{k:Nat}{q:Bool}(r:bS (k+1) A q)(C:Addr)(us:List Value)(kw:List (Str×Value)):bS k (A.under (.builtin "type.__call__" ⟨.ref C::us,kw⟩)) q:=
 ⟨r.hd,by have:=r.dp;rw[NS];omega,by have:=r.un;rw[LF];omega,by rw[JM];exact r.gd⟩
theorem bS.depth{k:Nat}{q:Bool}(r:bS k A q):A.depth<recursionLimit:=by have:=r.dp;omega
theorem bS.units{k:Nat}{q:Bool}(r:bS k A q):A.units+64<cLine:=by have:=r.un;omega
noncomputable def FA:TA:=fun _ H Q=>Q [] H
noncomputable def iZ(ta:TE)(tr:TA):TA:=fun σ H Q=>ta σ H fun x H1=>tr σ H1 fun xs H2=>Q (x::xs) H2
section
variable{X:Cx}{e:Expr}{es:List Expr}{te:TE}{t:TA}{pos:Pos}
theorem pO:PA X [] FA:=fun _ _ _ _ H Q I h=>Calls.spliced_nil ⟨[],H,I,.nil,h⟩
theorem dU(ha:PE X e te)(hr:PA X es t)(hs:starEach (e::es) X.env=(false,eval e X.env)::starEach es X.env:=by rfl):PA X (e::es) (iZ te t):=by
 intro pos pins s σ H Q I h;rw[hs];show wpAny _ _ (spliced ((false,eval e X.env)::backTo pos (starEach es X.env))) _ _ s;refine A0a (thn (ha pins s σ H _ I h) fun u s1 ⟨x,H1,I1,r1,q1⟩=>?_);exact thn (hr pos pins s1 σ H1 _ I1 q1) fun us s2 ⟨xs,H2,I2,r2,q2⟩=>⟨x::xs,H2,I2,.cons r1 r2,q2⟩
noncomputable def NU(t:TA):TE:=fun σ H Q=>t σ H fun xs H1=>xs.length<=sizeLine/\∀p,H1 p=none->Q (.ref p) (upd H1 p (.tup xs))
noncomputable def aGH(t:TA):TE:=fun σ H Q=>t σ H fun xs H1=>xs.length<=sizeLine/\∀p,H1 p=none->Q (.ref p) (upd H1 p (.lst xs))
theorem sR{x1}(h:PA X es t):PE X (.Tuple es x1 pos) (NU t):=by
 intro pins s σ H Q I hq;refine wpAny_Tuple_spliced (thn (h pos pins s σ H _ I hq) fun us s1 ⟨xs,H1,I1,r,z,q⟩=>⟨by rw[<- r.length];exact z,?_⟩);have hf:H1 s1.heap.objs.size=none:=I1.hok.fresh (A7 _);refine⟨.ref s1.heap.objs.size,upd H1 s1.heap.objs.size (.tup xs),I1.laid (t':=s1.toks) (fun b u e=>A2 _ e) (A7 _) ?_,rfl,q _ hf⟩;exact⟨z,us,r,⟨_,B0 _ rfl,rfl,_,rfl⟩⟩
theorem WC(h:PA X es t):PE X (.List es pos) (aGH t):=by
 intro pins s σ H Q I hq;refine wpAny_List_spliced (thn (h pos pins s σ H _ I hq) fun us s1 ⟨xs,H1,I1,r,z,q⟩=>⟨by rw[<- r.length];exact z,?_⟩);have hf:H1 s1.heap.objs.size=none:=I1.hok.fresh (A7 _);refine⟨.ref s1.heap.objs.size,upd H1 s1.heap.objs.size (.lst xs),I1.laid (t':=s1.toks) (fun b u e=>A2 _ e) (A7 _) ?_,rfl,q _ hf⟩;exact⟨z,us,0,r,B0 _ rfl⟩
end
noncomputable abbrev Sp:=List V->Hp->VK->XK->Prop
noncomputable abbrev CXT:=List Env->Hp->Shared->XK->Value->Shared->Prop
structure LI(P:Program)(w:World)(K:Fg)(mg:Str->Option Value)(base:Heap)(A:Around)(outer:List Env)(s:Shared)(H:Hp):Prop where
 frames:A.frames=some outer
 mod:Mod K mg base
 bs:∀b o,base.get? b=some o->s.heap.get? b=some o/\H b=none
 bsz:base.objs.size<=s.heap.objs.size
 funs:s.heap.FunFrames base outer
 frf:∀b∈frs outer,H b=none
 hok:HOk P w H s.heap
 bare:AllBare s.gens
noncomputable def CE(outer:List Env)(P:Program)(w:World)(H:Hp)(s:Shared)(Q:VK)(u:Value)(s':Shared):Prop:=
 ∃v H',s'.os=s.os/\AllBare s'.gens/\Un (frs outer) [] H H' s.heap s'.heap/\HOk P w H' s'.heap/\RelV v u/\Q v H'
noncomputable def CR(CX:CXT)(outer:List Env)(P:Program)(w:World)(H:Hp)(s:Shared)(Q:VK)(E:XK)(r:Result)(s':Shared):Prop:=
 match r with
 |.ok (.ret u)=>CE outer P w H s Q u s'
 |.ok _=>False
 |.error e=>CX outer H s E e s'
structure gP(P:Program)(w:World)(K:Fg)(mg:Str->Option Value)(base:Heap)(CX:CXT)(k:Nat)(f:Addr)(fd:FuncData)(ps:List Str)(sp:Sp)(q:Bool:=true):Prop where
 len:∀vs H Q E,sp vs H Q E->vs.length=ps.length
 run:∀(A:Around)(outer:List Env)(s:Shared)(H:Hp)(args:Args)(us:List Value)(vs:List V)(Q:VK)(E:XK),bS k A q->LI P w K mg base A outer s H->BindsTo s fd args (ps.zip us)->bC vs us->sp vs H Q E->
  codeAny (model P w) A (.call (.ref f) args) (CR CX outer P w H s Q E) s
theorem gP.mono{P:Program}{w:World}{mg:Str->Option Value}{base:Heap}{CX:CXT}{j k:Nat}{f:Addr}{fd:FuncData}{ps:List Str}{sp:Sp}{q:Bool}(F:gP P w K mg base CX j f fd ps sp q)(h:j<=k):
 gP P w K mg base CX k f fd ps sp q:=⟨F.len,fun A outer s H args us vs Q E hr=>F.run A outer s H args us vs Q E (hr.mono h)⟩
theorem LI.make{P:Program}{w:World}{mg:Str->Option Value}{base:Heap}{outer:List Env}(e:LI P w K mg base A outer s H)(C:Addr)(us:List Value)(kw:List (Str×Value)):
 LI P w K mg base (A.under (.builtin "type.__call__" ⟨.ref C::us,kw⟩)) outer s H:=⟨by first|exact e.frames|(simpa[Around.under,Code.envs,Code.isFrame,pushEnvs]using e.frames),e.mod,e.bs,e.bsz,e.funs,e.frf,e.hok,e.bare⟩
section
variable{X:Cx}{pins:List (Addr×Obj)}{σ:St}{H:Hp}{s s':Shared}
theorem Inv.env0(I:Inv X pins σ H s):LI X.prog X.w X.K X.mg X.base X.A X.stack s H:=
 ⟨I.ok.frames,I.ok.mod,I.bs,D3 I.ok.bsz I.sz,I.stack,I.stkFree,I.hok,I.bare⟩
theorem Inv.after{Q:VK}{u:Value}(I:Inv X pins σ H s)(h:CE X.stack X.prog X.w H s Q u s'):EP X pins σ Q u s':=by
 obtain⟨v,H',os,bare,un,hok,r,q⟩:=h;obtain⟨hh,g,d,t,os'⟩:=s';obtain rfl:os'=s.os:=os;exact⟨v,H',I.call (h':=hh) (g':=g) (d':=d) (t':=t) (ch:=[]) un hok bare (fun b z=>absurd z (by simp)),r,q⟩
end
noncomputable def ZT(sp:Sp)(dvs:List V)(E:XK)(t:TA):TE:=fun σ H Q=>t σ H fun vs H1=>sp (vs++dvs) H1 Q E
noncomputable def aDB(C:Addr)(m:Str)(sp:Sp)(dvs:List V)(E:XK)(ta:TE)(t:TA):TE:=fun σ H Q=>ta σ H fun x H1=>∃a dx fs,x=.ref a/\H1 a=some (.ins C dx fs)/\fs.lookup m=none /\
 t σ H1 fun vs H2=>sp (x::(vs++dvs)) H2 Q E
noncomputable def aHE(C:Addr)(sp:Sp)(dvs:List V)(E:XK)(t:TA):TE:=fun σ H Q=>t σ H fun vs H1=>∀x dx,H1 x=none->H1 dx=none->dx≠x->
 sp (.ref x::(vs++dvs)) (upd (upd H1 dx (.own x)) x (.ins C dx [])) (fun v H2=>v=.non/\Q (.ref x) H2) E
noncomputable def Binds(K:Fg)(fd:FuncData)(ps:List Str)(ds:List Value):Prop:=
 ∀(s:Shared)(us:List Value),K.In s.heap->(us++ds).length=ps.length->BindsTo s fd ⟨us,[]⟩ (ps.zip (us++ds))
theorem Binds.all{fd:FuncData}{ps:List Str}(h:∀us:List Value,us.length=ps.length->bindArgs fd ⟨us,[]⟩=pure (ps.zip us)):Binds K fd ps []:=fun s us _ hl=>by
 rw[C6]at hl ⊢;exact .of_eq (h us hl)
noncomputable def FU(CX:CXT)(X:Cx)(E:XK):Prop:=∀(pins:List (Addr×Obj))(σ:St)(H:Hp)(s:Shared)(e:Value)(s':Shared),Inv X pins σ H s->CX X.stack H s E e s'->X.xe e s'
section
variable{X:Cx}{CX:CXT}{k:Nat}{f C:Addr}{fd:FuncData}{ps:List Str}{sp:Sp}{dvs:List V}{ds:List Value}{E:XK}{x m:Str}{p pos apos:Pos}{e o:Expr}{es:List Expr}{ta:TE}{t:TA}
theorem ZS{pins:List (Addr×Obj)}{σ:St}{H:Hp}{s:Shared}{Q:VK}{us:List Value}{vs:List V}{q:Bool}(F:gP X.prog X.w X.K X.mg X.base CX k f fd ps sp q)(hr:bS k X.A q)(hb:Binds X.K fd ps ds)(hd:bC dvs ds)(hx:FU CX X E)
 (I:Inv X pins σ H s) (r:bC vs us) (h:sp (vs++dvs) H Q E):wpAny (model X.prog X.w) X.A (call (.ref f) us) (EP X pins σ Q) X.xe s:=by
 have r2:bC (vs++dvs) (us++ds):=r.append hd;have hl:(us++ds).length=ps.length:=by rw[<- r2.length];exact F.len _ _ _ _ h
 refine A0b (U1 (F.run X.A X.stack s H ⟨us,[]⟩ (us++ds) (vs++dvs) Q E hr I.env0 (hb s us I.kIn hl) r2 h) fun r s' hq=>?_);cases r with
 |error e=>exact hx pins σ H s e s' I hq
 |ok fl=>
  cases fl with
  |ret u=>exact I.after hq
  |next=>exact False.elim hq
  |brk=>exact False.elim hq
  |cont=>exact False.elim hq
theorem QM{q:Bool}(F:gP X.prog X.w X.K X.mg X.base CX k f fd ps sp q)(hr:bS k X.A q)(hg:Gl X x)(hm:X.mg x=some (.ref f))(hk:PySem.W.keepIn X.K (.ref f)=true)(hb:Binds X.K fd ps ds)(hd:bC dvs ds)(hx:FU CX X E)
 (ha:PA X (e::es) t) (hdb:(x==("__debug__":Str))=false:=by decide) (he:starEach (e::es) X.env=(false,eval e X.env)::starEach es X.env:=by rfl) (hpl:(backTo pos (starEach es X.env)).any (·.1)=false:=by rfl):
 PE X (.Call (.Name x p) (e::es) [] pos) (ZT sp dvs E t):=by
 intro pins s σ H Q I h;refine J4 (lA I hg hm ?_ hdb);refine O0 (h₀:=X.base) I.ok.mod.kin hk (thn (ha pos pins s σ H _ I h) fun us s1 ⟨vs,H1,I1,r,q⟩=>⟨I1.kIn,?_⟩) he hpl;exact ZS F hr hb hd hx I1 r q
theorem aAN{pl:Sem Bool}(he:PE X o ta)(c:Cls X.K C)(hm:aBK X.K C m f)(F:gP X.prog X.w X.K X.mg X.base CX k f fd ps sp)(hr:bS k X.A)(hb:Binds X.K fd ps ds)(hd:bC dvs ds)(hx:FU CX X E)(ha:PA X (e::es) t)
 (hst:starEach (e::es) X.env=(false,eval e X.env)::starEach es X.env:=by rfl) (hpl:(backTo pos (starEach es X.env)).any (·.1)=false:=by rfl)
 (ht:eval (.Call (.Attribute o m apos) (e::es) [] pos) X.env=(do
  let ov <- eval o X.env
  standAt apos.atName
  let(f,first) <- holding [ov] (getMethod ov m pl)
  callWith pos f first (backTo pos (starEach (e::es) X.env)) (backToKw pos (keywordEach [] X.env))):=by rfl):
 PE X (.Call (.Attribute o m apos) (e::es) [] pos) (aDB C m sp dvs E ta t):=by
 intro pins s σ H Q I h;refine PySem.W.methodCall_KW (pl:=pl) (thn (he pins s σ H _ I h) fun u s1 ⟨x,H1,I1,rx,a,dx,fs,ex,ea,l,q⟩=>?_) ht;subst ex;obtain rfl:u=Value.ref a:=rx;refine yF I1 ea c hm l ?_;refine O0 (first:=[.ref a]) (h₀:=X.base) I.ok.mod.kin hm.kp (thn (ha pos pins s1 σ H1 _ I1 q) fun us s2 ⟨vs,H2,I2,r,q2⟩=>⟨I2.kIn,?_⟩) hst hpl;exact ZS (us:=.ref a::us) (vs:=.ref a::vs) F hr hb hd hx I2 (.cons rfl r) q2
structure Mk(K:Fg)(C f:Addr):Prop where
 makes:PySem.W.makesIn K C=true
 init:PySem.W.findIn K (.ref C) "__init__"=some (some (.ref f))
 fn:PySem.W.isFn K (.ref f)=true
 kp:PySem.W.keepIn K (.ref C)=true
theorem IR{pins:List (Addr×Obj)}{σ:St}{H:Hp}{s:Shared}{Q:VK}{us:List Value}{vs:List V}(M:Mk X.K C f)(F:gP X.prog X.w X.K X.mg X.base CX k f fd ps sp)(hr:bS (k+1) X.A)(hb:Binds X.K fd ps ds)(hd:bC dvs ds)
 (hx:∀H s e s',Inv X pins σ H s->CX X.stack H s E e s'->X.xe e s') (I:Inv X pins σ H s) (r:bC vs us)
 (h:∀x dx,H x=none->H dx=none->dx≠x->sp (.ref x::(vs++dvs)) (upd (upd H dx (.own x)) x (.ins C dx [])) (fun v H2=>v=.non/\Q (.ref x) H2) E):
 wpAny (model X.prog X.w) X.A (call (.ref C) us) (EP X pins σ Q) X.xe s:=by
 have hq:=h (s.heap.objs.size+1) s.heap.objs.size (I.hok.fresh (Nat.le_succ _)) (I.hok.fresh (A7 _)) (B6 (F5 _));have I2:=Inv.made (C:=C) I;have r2:bC (V.ref (s.heap.objs.size+1)::(vs++dvs)) (Value.ref (s.heap.objs.size+1)::(us++ds)):=.cons rfl (r.append hd)
 have hl:(Value.ref (s.heap.objs.size+1)::us++ds).length=ps.length:=by
  have e:=r2.length;rw[F.len _ _ _ _ hq]at e;exact e.symm
 refine A0b (aAf (f:=f) I.kIn M.makes M.init (beq_iff_eq.mp M.fn) (U1 (F.run _ X.stack _ _ ⟨Value.ref (s.heap.objs.size+1)::us,[]⟩ (Value.ref (s.heap.objs.size+1)::(us++ds)) _ _ E (hr.make C us [])
  (I2.env0.make C us []) (hb _ (Value.ref (s.heap.objs.size+1)::us) I2.kIn hl) r2 hq) fun r s' hq'=>?_))
 cases r with
 |error e=>exact hx _ _ e s' I2 hq'
 |ok fl=>
  cases fl with
  |ret u=>
   obtain⟨v,H',I3,rv,ev,q3⟩:=I2.after hq';subst ev;exact⟨rv,⟨V.ref (s.heap.objs.size+1),H',I3,rfl,q3⟩⟩
  |next=>exact False.elim hq'
  |brk=>exact False.elim hq'
  |cont=>exact False.elim hq'
end
structure aS(N P:List Str)(sc:Scope):Prop where
 kind:sc.kind=.function
 co:sc.isCoroutine=false
 gen:sc.isGenerator=false
 nd:N.Nodup
 pre:N.take P.length=P
 par:∀x∈P,sc.names.lookup x=some .local\/sc.names.lookup x=some .cell
 nofree:∀y∈sc.names,y.2≠.free
theorem DD{kindOf:Str->Option NameKind}{x:Str}:∀{binds:List (Str×Value)}{m:Str->Option Value},(∀v,(x,v)∉binds)->bindL kindOf binds m x=m x
 |[],_=>fun _=>rfl
 |(n,v)::r,m=>fun h=>by
  unfold bindL;rw[DD fun w hw=>h w (B4 _ hw)];split
  .have:x≠n:=by rintro rfl;exact h v B5
   simp[this]
  .rfl
theorem EL{kindOf:Str->Option NameKind}{x:Str}:∀{binds:List (Str×Value)}{m:Str->Option Value},(∀v,(x,v)∉binds)->bindC kindOf binds m x=m x
 |[],_=>fun _=>rfl
 |(n,v)::r,m=>fun h=>by
  unfold bindC;rw[EL fun w hw=>h w (B4 _ hw)];split
  .rfl
  .have:x≠n:=by rintro rfl;exact h v B5
   simp[this]
theorem DK{kindOf:Str->Option NameKind}{x:Str}{v:Value}:∀{P:List Str}{vs:List Value}{i:Nat}{m:Str->Option Value},P.Nodup->P[i]?=some x->vs[i]?=some v->kindOf x=some .local->
 bindL kindOf (P.zip vs) m x=some v
 |[],_,_,_=>fun _ h _ _=>by simp at h
 |_::_,[],_,_=>fun _ _ h _=>by simp at h
 |p::P,w::vs,0,m=>fun nd h1 h2 hk=>by
  simp at h1 h2;subst h1;subst h2;show bindL kindOf ((p,w)::P.zip vs) m p=_;unfold bindL;rw[DD fun v hv=>(List.nodup_cons.mp nd).1 (List.of_mem_zip hv).1,A4 hk];simp
 |p::P,w::vs,i+1,m=>fun nd h1 h2 hk=>by
  show bindL kindOf ((p,w)::P.zip vs) m x=_;unfold bindL;exact DK (i:=i) (List.nodup_cons.mp nd).2 (by simpa using h1) (by simpa using h2) hk
theorem DQ{kindOf:Str->Option NameKind}{x:Str}{v:Value}:∀{P:List Str}{vs:List Value}{i:Nat}{m:Str->Option Value},P.Nodup->P[i]?=some x->vs[i]?=some v->kindOf x≠some .local->
 bindC kindOf (P.zip vs) m x=some v
 |[],_,_,_=>fun _ h _ _=>by simp at h
 |_::_,[],_,_=>fun _ _ h _=>by simp at h
 |p::P,w::vs,0,m=>fun nd h1 h2 hk=>by
  simp at h1 h2;subst h1;subst h2;show bindC kindOf ((p,w)::P.zip vs) m p=_;unfold bindC;rw[EL fun v hv=>(List.nodup_cons.mp nd).1 (List.of_mem_zip hv).1,A5 hk];simp
 |p::P,w::vs,i+1,m=>fun nd h1 h2 hk=>by
  show bindC kindOf ((p,w)::P.zip vs) m x=_;unfold bindC;exact DQ (i:=i) (List.nodup_cons.mp nd).2 (by simpa using h1) (by simpa using h2) hk
noncomputable def start(N:List Str)(vs:List V):St:=vs.map some++List.replicate (N.length-vs.length) none
noncomputable def kR(CX:CXT)(P:Program)(w:World)(K:Fg)(mg:Str->Option Value)(base:Heap)(N:List Str)(qual:Str)(scope:Scope)(f:Addr)(cd:Value)(A:Around)(outer:List Env)(s:Shared)(H:Hp)(E:XK)(q:Bool:=true):Cx where
 prog:=P
 w:=w
 K:=K
 mg:=mg
 base:=base
 A:=A.deeper (envOfC qual scope s.heap.objs.size f cd)
 N:=N
 s₀:=s
 H₀:=H
 env:=envOfC qual scope s.heap.objs.size f cd
 outer:=outer
 stack:=envOfC qual scope s.heap.objs.size f cd::outer
 ex:=[]
 calm:=q
 fn:=fun _=>true
 pn:=[]
 xe:=fun e s'=>wpAny (model P w) (A.deeper (envOfC qual scope s.heap.objs.size f cd)) (leaving (envOfC qual scope s.heap.objs.size f cd) e) (fun _ s''=>CX outer H s E e s'') (fun e' s''=>CX outer H s E e' s'') s'
theorem JA{sc:Scope}{n:Nat}{x:Str}(h:sc.names.lookup x=some .cell):∃c,(cellsFrom n sc.names []).lookup x=some c:=by
 have q:=PySem.W.cellsFrom_some sc.names n [] (.inl h);exact Option.isSome_iff_exists.mp q
theorem RU{CX:CXT}{P:Program}{w:World}{K:Fg}{mg:Str->Option Value}{base:Heap}{N ps:List Str}{qual:Str}{scope:Scope}{f:Addr}{cd:Value}{A:Around}{outer:List Env}{s s1:Shared}{H:Hp}{E:XK}{us:List Value}{vs:List V}{q:Bool}
 (S:aS N ps scope) (hd:q=true->A.handled=none) (e0:LI P w K mg base A outer s H) (hl:vs.length=ps.length) (r:bC vs us)
 (x:InCallC s s.heap.objs.size (bindL (envOfC qual scope s.heap.objs.size f cd).kindOf (ps.zip us) fun _=>none) (cellsFrom (s.heap.objs.size+1) scope.names []) (bindC (envOfC qual scope s.heap.objs.size f cd).kindOf (ps.zip us) fun _=>none) s1):
 Inv (kR CX P w K mg base N qual scope f cd A outer s H E q) [] (start N vs) H s1:=by
 have hpl:ps.length<=N.length:=by have:=O6 List.length S.pre;rw[Y1]at this;omega
 obtain⟨h1,tk,rfl,hk⟩:=x.done;have noA:∀b:Addr,b∉(kR CX P w K mg base N qual scope f cd A outer s H E q).ex:=fun b z=>absurd (show b∈([]:List Addr)from z) (by simp)
 refine⟨⟨e0.mod,S.kind,rfl,rfl,A7 _,fun y z c h1 h2=>?_,fun y hy=>?_,fun y c _ h=>?_,hd,Around.frames_deeper e0.frames,.inr ⟨rfl,rfl⟩,fun b z=>absurd z (noA b),e0.bs,e0.bsz,fun b _ _=>noA b,fun b z=>absurd z (noA b),e0.funs,e0.frf⟩,
  rfl,e0.bare,Un.kept hk,⟨_,x.toInCall.ns,fun i y v h1 h2 h3=>?_⟩,fun y c h=>⟨_,x.cell y c h⟩,e0.hok.fresh (A7 _),fun y c h=>?_,fun p hp=>absurd (show p∈([]:List (Addr×Obj))from hp) (by simp),e0.hok.kept hk,?_⟩
 .exact name_of_addr x.apart (E4 h1) (E4 h2)
 .have hy:scope.names.lookup y=some .cell\/scope.names.lookup y=some .free:=hy;rcases hy with hy|hy
  .exact JA hy
  .exact absurd rfl (S.nofree _ (E4 hy))
 .exact S1 (x.above y c (E4 h))
 .have hi:i<vs.length:=by
   unfold start at h2;by_cases hi:i<vs.length
   .exact hi
   .rw[F4 (by simpa using hi)]at h2;rw[List.getElem?_replicate]at h2;split at h2<;>cases h2
  have ha:vs[i]?=some v:=by
   unfold start at h2;rw[F6 (by simpa using hi),D6]at h2;cases e:vs[i]? with
   |none=>rw[e]at h2;cases h2
   |some a=>rw[e]at h2;cases h2;rfl
  obtain⟨u,hu,rv⟩:=r.get ha
  have hp:ps[i]?=some y:=by
   rw[<- S.pre,List.getElem?_take_of_lt (by omega)];exact h1
  have ndP:ps.Nodup:=by rw[<- S.pre];exact S.nd.sublist (List.take_sublist _ _)
  refine⟨u,rv,?_⟩;rcases S.par y (List.mem_of_getElem? hp)with k|k
  .exact .inl ⟨k,DK ndP hp hu k⟩
  .obtain⟨c,e⟩:=JA (n:=s.heap.objs.size+1) k;refine .inr ⟨.inl k,c,e,?_⟩;have q:=x.cell y c e;rw[DQ ndP hp hu (by show scope.names.lookup y≠_;rw[k];decide)]at q;exact q
 .exact e0.hok.fresh (S1 (x.above y c (E4 h)))
 .unfold start;show _=N.length;rw[B2,A9,List.length_replicate];omega
theorem aDn{CX:CXT}{P:Program}{w:World}{K:Fg}{mg:Str->Option Value}{base:Heap}{k:Nat}{f:Addr}{name qual:Str}{params:Arguments}{body:List Stmt}{scope:Scope}{dV kV doc pm cdv ct oc:Value}{an od:Option Addr}
 {osl:Array (Option Value)} {N ps:List Str} {sp:Sp} {q:Bool} (lk:K.lookup f=some ⟨oc,od,.func (PySem.W.fnOf name qual params body scope dV kV doc pm an cdv ct),osl⟩) (hcd:PySem.W.codeIn K cdv qual=true) (S:aS N ps scope)
 (len:∀vs H Q E,sp vs H Q E->vs.length=ps.length)
 (hbody:∀(A:Around)(outer:List Env)(s:Shared)(H:Hp)(vs:List V)(Q:VK)(E:XK),bS k (A.deeper (envOfC qual scope s.heap.objs.size f cdv)) q->sp vs H Q E->
  ∃t,PSs (kR CX P w K mg base N qual scope f cdv A outer s H E q) body t/\t { nx:=fun _ H'=>Q .non H',rt:=Q } (start N vs) H):
 gP P w K mg base CX (k+1) f (PySem.W.fnOf name qual params body scope dV kV doc pm an cdv ct) ps sp q:=by
 refine⟨len,fun A outer s H args us vs Q E hr e0 hb r hsp=>?_⟩;have hl:=len _ _ _ _ hsp;have KX:K.In s.heap:=e0.mod.kin.keeps fun b o e=>(e0.bs b o e).1;have lim:s.heap.NoLimit:=e0.mod.nolimit.keeps fun b o e=>(e0.bs b o e).1
 have hkind:∀y∈ps.zip us,scope.names.lookup y.1=some .local\/(scope.names.lookup y.1=some .cell/\((cellsFrom (s.heap.objs.size+1) scope.names []).lookup y.1).isSome=true):=fun⟨n,v⟩ hy=>by
  rcases S.par n (List.of_mem_zip hy).1 with q|q
  .exact .inl q
  .exact .inr ⟨q,PySem.W.cellsFrom_some _ _ _ (.inl q)⟩
 refine codeAny_call_function hr.depth (KX _ _ lk) rfl S.co S.gen rfl (PySem.W.codeRec_of KX hcd) (hb _ _ _ _ ?_);refine wpAny_newFunctionEnv_cells S.kind hkind fun env he s1 x=>?_;subst he;refine⟨lim.keeps x.toInCall.keep,codeAny_func ?_⟩;obtain⟨t,ht,hq⟩:=hbody A outer s H vs Q E (hr.deeper _) hsp;have I:Inv (kR CX P w K mg base N qual scope f cdv A outer s H E q) [] (start N vs) H s1:=RU S hr.hd e0 hl r x;refine D0 (ht [] s1 (start N vs) H _ I hq) (fun fl s' hs=>?_) fun e s' hs=>hs
 have fin:∀{σ':St}{H':Hp}{v:V}{u:Value},Inv (kR CX P w K mg base N qual scope f cdv A outer s H E q) [] σ' H' s'->RelV v u->Q v H'->CE outer P w H s Q u s':=
  fun{σ' H' v u} J rv q=>⟨v,H',J.os,J.bare,J.base,J.hok,rv,q⟩
 cases fl with
 |ret u=>
  obtain⟨v,σ',H',J,rv,q⟩:=hs;exact fin J rv q
 |next=>
  obtain⟨σ',H',J,q⟩:=hs;exact fin (v:=V.non) (u:=Value.none) J rfl q
 |brk=>
  obtain⟨_,_,_,q⟩:=hs;exact False.elim q
 |cont=>
  obtain⟨_,_,_,q⟩:=hs;exact False.elim q
section
variable{X:Cx}{x:Str}{p pos:Pos}{e:Expr}{es:List Expr}{t:TA}{id T:String}{r:List V->Hp->VK->Prop}
noncomputable def tCB(r:List V->Hp->VK->Prop)(t:TA):TE:=fun σ H Q=>t σ H fun vs H1=>r vs H1 Q
theorem pW(hc:eD X (.builtin id) r)(hg:Gl X x)(hm:X.mg x=none)(hv:bootBuiltins x=some (.builtin id))(ha:PA X (e::es) t)(hn:x≠"__name__":=by decide)(hdb:(x==("__debug__":Str))=false:=by decide)
 (he:starEach (e::es) X.env=(false,eval e X.env)::starEach es X.env:=by rfl) (hpl:(backTo pos (starEach es X.env)).any (·.1)=false:=by rfl):PE X (.Call (.Name x p) (e::es) [] pos) (tCB r t):=by
 intro pins s σ H Q I h;refine J4 (tK I hg hm hv ?_ hn hdb);exact PyProof.Rows.callWith_builtin1 (thn (ha pos pins s σ H _ I h) fun us s1 ⟨vs,H1,I1,r1,q1⟩=>hc pins s1 σ H1 vs us Q I1 r1 q1) he hpl
theorem CW(hc:eD X (.type T) r)(hg:Gl X x)(hm:X.mg x=none)(hv:bootBuiltins x=some (.type T))(ha:PA X (e::es) t)(hn:x≠"__name__":=by decide)(hdb:(x==("__debug__":Str))=false:=by decide)
 (he:starEach (e::es) X.env=(false,eval e X.env)::starEach es X.env:=by rfl) (hpl:(backTo pos (starEach es X.env)).any (·.1)=false:=by rfl):PE X (.Call (.Name x p) (e::es) [] pos) (tCB r t):=by
 intro pins s σ H Q I h;refine J4 (tK I hg hm hv ?_ hn hdb);exact Z2 (thn (ha pos pins s σ H _ I h) fun us s1 ⟨vs,H1,I1,r1,q1⟩=>hc pins s1 σ H1 vs us Q I1 r1 q1) he hpl
end
end L2
namespace HT
open PySem PyProof.Rows
noncomputable def lexLt:List Int->List Int->Bool
 |[],[]=>false
 |[],_::_=>true
 |_::_,[]=>false
 |x::xs,y::ys=>if x=y then lexLt xs ys else decide (x<y)
theorem lexLt_cons(x y:Int)(xs ys:List Int):lexLt (x::xs) (y::ys)=if x=y then lexLt xs ys else decide (x<y):=rfl
theorem CL:lexLt [] []=false:=rfl
theorem AU(y:Int)(ys:List Int):lexLt [] (y::ys)=true:=rfl
theorem AC(x:Int)(xs:List Int):lexLt (x::xs) []=false:=rfl
theorem ZW(A:Around)(s:Shared)(a:Int)(t:Tok)(c:Int)(u:Tok):∃e,SeqAt.EqAt A s (.int a t) (.int c u) e/\(e=true↔a=c):=
 ⟨(a==c),SeqAt.EqAt.int_int a t c u,by simp⟩
theorem XO(A:Around)(s:Shared)(a:Int)(t:Tok)(c:Int)(u:Tok)(prog:Program)(w:World)(E:Value->Shared->Prop)(Q:Value->Shared->Prop)(h:Q (.bool (decide (a<c))) s):
 wpAny (model prog w) A (richCompare .Lt (.int a t) (.int c u)) Q E s:=
 (PyProof.Rows.lt_int h:wpAny (model prog w) A (compareOp .Lt (.int a t) (.int c u)) Q E s)
section
open PySem.SeqAt
open PySem.AutoSeq1 (wpAny_loadPart')
open PySem.MeetsSeq PySem.MeetsSeq2 PySem.MeetsSeq3
theorem CQ(l b:Addr)(items items2:Array Value)(n n2:Nat)(dd dd2:Option Addr)(sl sl2:Array (Option Value))(ns ms:List Int)(hi:IntsAre items.toList ns)(hj:IntsAre items2.toList ms):
 Meets (Builtin.«tuple.__lt__» ⟨[.ref l,.ref b],[]⟩)
  (fun _ R s=>s.heap.get? l=some { cls:=.type "tuple",dict:=dd,data:=.seq items n,slots:=sl }/\s.heap.get? b=some { cls:=.type "tuple",dict:=dd2,data:=.seq items2 n2,slots:=sl2 } /\
   R (.ok (.ret (.bool (lexLt ns ms)))) s):=
 .of_wp fun prog w A R s h=>by
  obtain⟨hp,g,d,tk,os⟩:=s;obtain⟨hl,hb,h⟩:=h;have f2:=AutoSeq1.sub_tuple_tuple;have z1:items.size=ns.length:=by rw[<- hi.length];simp
  have z2:items2.size=ms.length:=by rw[<- hj.length];simp
  wp_walk using U8 hl,U8 hb,wpAny_forIn_list _ (fun rest b s'=>b.1=none/\s'=⟨hp,g,d,tk,os⟩/\∃(vs ws:List Value)(ns' ms':List Int),rest=vs.zip ws /\
   IntsAre vs ns'/\IntsAre ws ms'/\ns'.length+items2.size=ms'.length+items.size/\R (.ok (.ret (.bool (lexLt ns' ms')))) ⟨hp,g,d,tk,os⟩) _
  case turn=>
   rintro⟨y,x⟩ rest b s' ⟨hb',rfl,vs,ws,ns',ms',hz,hvi,hwi,hlen,hR⟩;cases hvi with
   |nil=>rw[List.zip_nil_left]at hz;cases hz
   |cons a t hvi'=>
    cases hwi with
    |nil=>rw[List.zip_nil_right]at hz;cases hz
    |cons c u hwi'=>
     rw[List.zip_cons_cons]at hz;injection hz with hyx hrest
     injection hyx with hy hx
     subst hy hx;rw[lexLt_cons]at hR;simp only[List.length_cons]at hlen;obtain⟨e,he,hiff⟩:=ZW A.in1 ⟨hp,g,d,tk,os⟩ a t c u;refine A0 (he prog w _ _ ?_);cases e with
     |true=>
      rw[A4 (hiff.mp rfl)]at hR
      wp_walk
      exact⟨rfl,rfl,_,_,_,_,hrest,hvi',hwi',by omega,hR⟩
     |false=>
      rw[A5 (fun q=>absurd (hiff.mpr q) A6)]at hR;have hri:=XO A.in1 ⟨hp,g,d,tk,os⟩ a t c u prog w
      wp_walk using hri
      exact⟨_,rfl,by simpa using hR⟩
  case fin=>
   rintro⟨b1,b2⟩ s' ⟨hb',rfl,vs,ws,ns',ms',hz,hvi,hwi,hlen,hR⟩;simp only at hb';subst hb'
   have hv:lexLt ns' ms'=decide (items.size<items2.size):=by
    cases hvi with
    |nil=>
     cases hwi with
     |nil=>
      simp only[List.length_nil]at hlen;rw[CL];exact(B8 (by omega)).symm
     |cons c u hw=>
      simp only[List.length_nil,List.length_cons]at hlen;rw[AU];exact(C4 (by omega)).symm
    |cons a t hv=>
     cases hwi with
     |nil=>
      simp only[List.length_nil,List.length_cons]at hlen;rw[AC];exact(B8 (by omega)).symm
     |cons c u hw=>
      rw[List.zip_cons_cons]at hz;cases hz
   rw[hv]at hR
   wp_walk
   exact⟨_,rfl,by simpa[Builtin.Tuple.tupleCompareSizes]using hR⟩
  case h=>
   exact⟨rfl,rfl,items.toList,items2.toList,ns,ms,rfl,hi,hj,by omega,h⟩
end
section
variable{prog:Program}{w:World}{A:Around}{E:Value->Shared->Prop}{s:Shared}
theorem lt_tupInts{l b:Addr}{items items2:Array Value}{ns ms:List Int}{Q:Value->Shared->Prop}(hl:IsTup s.heap l items)(hb:IsTup s.heap b items2)(hi:IntsAre items.toList ns)(hj:IntsAre items2.toList ms)
 (hu:A.units<cLine) (h:Q (.bool (lexLt ns ms)) s):wpAny (model prog w) A (compareOp .Lt (.ref l) (.ref b)) Q E s:=by
 obtain⟨⟨cls,dd,data,sl⟩,ho,hc,n,hd⟩:=id hl;obtain⟨⟨cls2,dd2,data2,sl2⟩,ho2,hc2,n2,hd2⟩:=id hb;simp only at hc hd hc2 hd2;subst hc hd hc2 hd2
 exact richCompare_meets_room (op:=.Lt) ⟨_,ho,rfl⟩ ⟨_,ho2,rfl⟩ PySem.F.slot_tuple_lt PySem.F.entry_tuple_lt (PySem.F.args_tuple_lt_2 _ _) (CQ l b items items2 n n2 dd dd2 sl sl2 ns ms hi hj)
  ⟨ho,ho2,show Value.bool (lexLt ns ms)≠Value.notImplemented/\Q (.bool (lexLt ns ms)) s from⟨(fun x=>nomatch x),h⟩⟩ hu
theorem cat_tup{t b:Addr}{vs ws:List Value}{Q:Value->Shared->Prop}(ht:IsTup s.heap t vs.toArray)(hb:IsTup s.heap b ws.toArray)(hv:vs≠[])
 (h1:ws=[]->Q (.ref t) s) (h2:ws≠[]->Q (.ref s.heap.objs.size) { s with heap:=s.heap.push { cls:=.type "tuple",data:=.seq (vs++ws).toArray } })
 (hsz:vs.length+ws.length<=sizeLine):wpAny (model prog w) A (binaryOp .Add (.ref t) (.ref b)) Q E s:=by
 obtain⟨⟨cls,dd,data,sl⟩,ho,hc,n,hd⟩:=id ht;obtain⟨⟨cls2,dd2,data2,sl2⟩,ho2,hc2,n2,hd2⟩:=id hb;simp only at hc hd hc2 hd2;subst hc hd hc2 hd2;have e:vs.toArray++ws.toArray=(vs++ws).toArray:=by simp
 by_cases hw:ws=[]
 .exact concat_meets ⟨_,ho,rfl⟩ ⟨_,ho2,rfl⟩ noFill_tuple_add seq_tuple_add PySem.F.slot_tuple_add PySem.F.entry_tuple_add (PySem.F.args_tuple_add_2 _ _)
   (tuple_addW1 t b vs.toArray ws.toArray n n2 dd dd2 sl sl2 (by simpa using hv) (by simp[hw])) ⟨ho,ho2,h1 hw⟩
 .refine concat_meets ⟨_,ho,rfl⟩ ⟨_,ho2,rfl⟩ noFill_tuple_add seq_tuple_add PySem.F.slot_tuple_add PySem.F.entry_tuple_add (PySem.F.args_tuple_add_2 _ _)
   (tuple_addW2 t b vs.toArray ws.toArray n n2 dd dd2 sl sl2 (by simpa using hv) (by simpa using hw) (by rw[C5,C5];exact hsz)) ⟨ho,ho2,?_⟩
  rw[e];exact h2 hw
noncomputable def sIx(n d:Nat):Option Int->Nat
 |none=>d
 |some v=>if v<0 then(v+(n:Int)).toNat else min v.toNat n
theorem sIx_none(n d:Nat):sIx n d none=d:=rfl
theorem sIx_nat(n d k:Nat):sIx n d (some (k:Int))=min k n:=by
 show(if (k:Int)<0 then((k:Int)+(n:Int)).toNat else min (k:Int).toNat n)=min k n;rw[A5 (by omega),U6]
theorem aEK(n d:Nat)(hd:d<=n)(o:Option Int):sIx n d o<=n:=by
 cases o with
 |none=>exact hd
 |some v=>
  show(if v<0 then(v+(n:Int)).toNat else min v.toNat n)<=n;by_cases hv:v<0
  .rw[A4 hv];omega
  .rw[A5 hv];exact Nat.min_le_right _ _
theorem QR(v:Int)(n d:Nat):(if v<0 then max (v+(n:Int)) 0 else min v (n:Int))=((sIx n d (some v):Nat):Int):=by
 show(if v<0 then max (v+(n:Int)) 0 else min v (n:Int))=(((if v<0 then(v+(n:Int)).toNat else min v.toNat n):Nat):Int);by_cases hv:v<0
 .simp only[if_pos hv];omega
 .simp only[if_neg hv];omega
theorem LD(lo hi:Option Int)(n:Nat):Builtin.Slice.sliceAdjust lo hi 1 (n:Int)=(((sIx n 0 lo:Nat):Int),((sIx n n hi:Nat):Int)):=by
 have h1:¬((1:Int)<0):=by omega
 unfold Builtin.Slice.sliceAdjust;simp only[h1,if_false];refine Prod.ext ?_ ?_
 .cases lo with
  |none=>rfl
  |some v=>exact QR v n 0
 .cases hi with
  |none=>rfl
  |some v=>exact QR v n n
theorem LN(i j:Nat):Builtin.Slice.slicePlaces (i:Int) (j:Int) 1=j-i:=by
 unfold Builtin.Slice.slicePlaces;have h1:(1:Int) > 0:=by omega
 simp only[h1,if_true,Int.ediv_one];split<;>omega
theorem yW{v:Value}{o:Option Int}{Q:Option Int->Shared->Prop}(p:IsPart v o)(h:Q o s):wpAny (model prog w) A (Builtin.Slice.slicePartIndex v) Q E s:=by
 cases p with
 |none=>exact slicePart_none h
 |int i t=>exact slicePart_int h
theorem mK{sl:Addr}{vl vu:Value}{lo hi:Option Int}{n:Nat}{Q:Int×Int×Nat->Shared->Prop}(hs:s.heap.IsSliceOf sl vl vu .none)(pl:IsPart vl lo)(pu:IsPart vu hi)
 (h:Q (((sIx n 0 lo:Nat):Int),1,sIx n n hi-sIx n 0 lo) s):wpAny (model prog w) A (Builtin.Slice.sliceApplied (.ref sl) (pure (n:Int))) Q E s:=by
 obtain⟨os,hos,hcs,hds⟩:=id hs;unfold Builtin.Slice.sliceApplied Builtin.Slice.sliceFields;refine A0 (A0 (E5 hos hds (x:=vl) rfl (A0 (E5 hos hds (x:=vu) rfl (A0 (E5 hos hds (x:=.none) rfl (A3 ?_)))))));refine A0 (slicePart_none ?_);show wpAny _ _ (if ((1:Int)==0)=true then _ else _) _ _ s;rw[A5 (by decide)];refine A0 (yW pl (A0 (yW pu (A0 (A3 ?_)))));show wpAny _ _ (match Builtin.Slice.sliceAdjust lo hi 1 (n:Int)with|(lo,hi)=>pure (lo,(1:Int),Builtin.Slice.slicePlaces lo hi 1)) _ _ s;rw[LD lo hi n];show wpAny _ _ (pure (((sIx n 0 lo:Nat):Int),(1:Int),Builtin.Slice.slicePlaces ((sIx n 0 lo:Nat):Int) ((sIx n n hi:Nat):Int) 1)) _ _ s;rw[LN];exact A3 h
theorem aAv(xs:Array Value)(i k:Nat):((List.range k).filterMap fun(m:Nat)=>xs[((i:Int)+(m:Int)*1).toNat]?).toArray=((xs.toList.drop i).take k).toArray:=by
 have e:(fun(m:Nat)=>xs[((i:Int)+(m:Int)*1).toNat]?)=fun m=>xs[i+m]?:=by
  funext m;have:((i:Int)+(m:Int)*1).toNat=i+m:=by omega
  rw[this]
 rw[e];have:=pick_run xs i k;rw[List.filterMap_map]at this;have e2:((fun x=>xs[x]?) ∘ fun x=>i+x)=fun m=>xs[i+m]?:=rfl;rw[e2]at this;rw[this]
theorem getItem_tuple_cut{t sl:Addr}{items:Array Value}{vl vu:Value}{lo hi:Option Int}{Q:Value->Shared->Prop}(ht:IsTup s.heap t items)(hs:s.heap.IsSliceOf sl vl vu .none)(pl:IsPart vl lo)(pu:IsPart vu hi)
 (hw:¬(sIx items.size 0 lo=0/\sIx items.size items.size hi=items.size))
 (h:Q (.ref s.heap.objs.size) { s with heap:=s.heap.push { cls:=.type "tuple",data:=.seq ((items.toList.drop (sIx items.size 0 lo)).take (sIx items.size items.size hi-sIx items.size 0 lo)).toArray } })
 (hsz:items.size<=sizeLine):wpAny (model prog w) A (getItem (.ref t) (.ref sl)) Q E s:=by
 have htake:sizeOk (.seq ((items.toList.drop (sIx items.size 0 lo)).take (sIx items.size items.size hi-sIx items.size 0 lo)).toArray):=by
  show((items.toList.drop (sIx items.size 0 lo)).take (sIx items.size items.size hi-sIx items.size 0 lo)).toArray.size<=sizeLine;rw[C5,Y1,Y2,S5];omega
 have hj:sIx items.size items.size hi<=items.size:=aEK _ _ (A7 _) hi;obtain⟨os,hos,hcs,hds⟩:=id hs;have hTs:s.TypeIs (.ref sl) "slice":=⟨os,hos,hcs⟩;unfold getItem
 try with_reducible refine D4 ?_
 first|refine A0 (A3 ?_)|skip
 refine A0 (wpAny_sequenceKey ht.typeIs (by decide) ?_)
 refine A0 (J7 (name:=Str.ofString "__getitem__") ht.typeIs L9
  (F7 L9 ht.typeIs entry_tuple_getitem ?_ (args_tuple_getitem _ _)))
 show wpAny _ _ (Builtin.Tuple.tupleItemsOf (.ref t) >>= _) _ _ s;refine A0 (tupleItemsOf_ ht ?_);refine A0 (Y3 hTs ?_);rw[A4 (by decide)];refine A0 (mK hs pl pu ?_)
 have hno:¬((((sIx items.size 0 lo:Nat):Int)==0&&(1:Int)==1&&(sIx items.size items.size hi-sIx items.size 0 lo)==items.size)=true):=by
  intro q;rw[B3,B3]at q;have q1:((sIx items.size 0 lo:Nat):Int)=0:=eq_of_beq q.1.1;have q2:sIx items.size items.size hi-sIx items.size 0 lo=items.size:=eq_of_beq q.2;exact hw ⟨by omega,by omega⟩
 show wpAny _ _ (if (((sIx items.size 0 lo:Nat):Int)==0&&(1:Int)==1&&(sIx items.size items.size hi-sIx items.size 0 lo)==items.size)=true then _ else _) _ _ s;rw[A5 hno,aAv]
 first
  |exact A0 (m:=Builtin.Tuple.tupleExact _) (C9 (A3 ⟨_,rfl,A3 h⟩) htake)
  |exact A0 (m:=Builtin.Tuple.tupleExact _) (C9 (A0 (A3 (A3 ⟨_,rfl,A3 h⟩))) htake)
  |exact A0 (A0 (m:=Builtin.Tuple.tupleExact _) (C9 (A3 (A3 ⟨_,rfl,A3 h⟩)) htake))
  |exact A0 (A0 (m:=Builtin.Tuple.tupleExact _) (C9 (A3 ⟨_,rfl,A3 h⟩) htake))
end
end HT
namespace L2
variable{H:Hp}{σ:St}{s:Shared}{pos:Pos}
open PySem PySem.Spec PyProof.Rows
noncomputable abbrev TO:=St->Hp->(Option Int->Hp->Prop)->Prop
noncomputable def PO(X:Cx)(e:Option Expr)(t:TO):Prop:=
 ∀(pins:List (Addr×Obj))(s:Shared)(σ:St)(H:Hp)(Q:Option Int->Hp->Prop),Inv X pins σ H s->t σ H Q->
  wpAny (model X.prog X.w) X.A (evalPart e X.env) (fun u s'=>∃o H',Inv X pins σ H' s'/\IsPart u o/\Q o H') X.xe s
noncomputable def QL:TO:=fun _ H Q=>Q none H
noncomputable def aDL(t:TE):TO:=fun σ H Q=>t σ H fun x H1=>∃i,x=.int i/\Q (some i) H1
section
variable{X:Cx}{e:Expr}{te:TE}{lo hi:Option Expr}{tl th:TO}{pos p2:Pos}
theorem aBi:PO X none QL:=by
 intro pins s σ H Q I h;rw[evalPart_none];exact A3 ⟨none,H,I,.none,h⟩
theorem aCq(h:PE X e te):PO X (some e) (aDL te):=by
 intro pins s σ H Q I hw;rw[evalPart_some];refine thn (h pins s σ H _ I hw) fun u s1 ⟨x,H1,I1,r1,q1⟩=>?_;obtain⟨i,rfl,q⟩:=q1;obtain⟨t,rfl⟩:=r1;exact⟨some i,H1,I1,.int i t,q⟩
noncomputable def SlR(X:Cx)(r:V->Option Int->Option Int->Hp->VK->Prop):Prop:=
 ∀(pins:List (Addr×Obj))(s:Shared)(σ:St)(H:Hp)(x:V)(v vl vu:Value)(lo hi:Option Int)(sl:Addr)(Q:VK),Inv X pins σ H s->RelV x v->s.heap.IsSliceOf sl vl vu .none->IsPart vl lo->IsPart vu hi->r x lo hi H Q->
  ∃T id,typeLookup (.type T) "__getitem__"=pure (some (.builtin id))/\s.TypeIs v T/\wpAny (model X.prog X.w) X.A (getItem v (.ref sl)) (EP X pins σ Q) X.xe s
theorem SlR.or{r r':V->Option Int->Option Int->Hp->VK->Prop}(h:SlR X r)(h':SlR X r'):SlR X (fun x lo hi H Q=>r x lo hi H Q\/r' x lo hi H Q):=by
 intro pins s σ H x v vl vu lo hi sl Q I rx hs pl pu q;rcases q with q|q
 .exact h pins s σ H x v vl vu lo hi sl Q I rx hs pl pu q
 .exact h' pins s σ H x v vl vu lo hi sl Q I rx hs pl pu q
noncomputable def tSl(r:V->Option Int->Option Int->Hp->VK->Prop)(te:TE)(tl th:TO):TE:=fun σ H Q=>te σ H fun x H1=>tl σ H1 fun l H2=>th σ H2 fun u H3=>r x l u H3 Q
theorem ZI{r:V->Option Int->Option Int->Hp->VK->Prop}(hr:SlR X r)(he:PE X e te)(hl:PO X lo tl)(hu:PO X hi th):PE X (.Subscript e (.Slice lo hi none p2) pos) (tSl r te tl th):=by
 intro pins s σ H Q I h;refine Subscript_ (thn (he pins s σ H _ I h) fun v s1 ⟨x,H1,I1,r1,q1⟩=>?_);refine wpAny_Slice (thn (hl pins s1 σ H1 _ I1 q1) fun vl s2 ⟨l,H2,I2,pl,q2⟩=>thn (hu pins s2 σ H2 _ I2 q2) fun vu s3 ⟨u,H3,I3,pu,q3⟩=>?_);rw[evalPart_none];refine A3 ?_;have I4:Inv X pins σ H3 { s3 with heap:=s3.heap.push { cls:=.type "slice",data:=.fields #[vl,vu,.none] } }:=I3.kept (t':=s3.toks) fun b ob q=>A2 _ q;obtain⟨T,id,hT,ht,hg⟩:=hr pins { s3 with heap:=s3.heap.push { cls:=.type "slice",data:=.fields #[vl,vu,.none] } } σ H3 x v vl vu l u s3.heap.objs.size Q I4 r1 (Heap.IsSliceOf.new ..) pl pu q3;show wpAny (model X.prog X.w) X.A (subscriptTail e (.Slice lo hi none p2) v (.ref s3.heap.objs.size)) (EP X pins σ Q) X.xe { s3 with heap:=s3.heap.push { cls:=.type "slice",data:=.fields #[vl,vu,.none] } };exact tail_any (ops:=[.ref s3.heap.objs.size,v]) ht hT hg (by with_unfolding_all rfl)
noncomputable def vP(xs:List V)(lo hi:Option Int):List V:=(xs.drop (HT.sIx xs.length 0 lo)).take (HT.sIx xs.length xs.length hi-HT.sIx xs.length 0 lo)
theorem wI(xs:List V)(lo hi:Option Int):(vP xs lo hi).length<=xs.length:=by
 unfold vP;rw[Y1,Y2];omega
noncomputable def aHx(K:Fg):V->Option Int->Option Int->Hp->VK->Prop:=fun x lo hi H Q=>∃a xs,x=.ref a/\SqT K H a xs /\
 ¬(HT.sIx xs.length 0 lo=0/\HT.sIx xs.length xs.length hi=xs.length)/\∀p,H p=none->Q (.ref p) (upd H p (.tup (vP xs lo hi)))
theorem sl_tup:SlR X (aHx X.K):=by
 intro pins s σ H x v vl vu lo hi sl Q I rx hs pl pu h;obtain⟨a,xs,rfl,hx,hw,q⟩:=h;cases rx;obtain⟨its,r,ht,hz⟩:=I.tuple hx;have hlen:its.toArray.size=xs.length:=by rw[C5];exact r.length.symm
 refine⟨"tuple",_,PyProof.Rows.slot_tuple_getitem.lookup,ht.typeIs,?_⟩;refine HT.getItem_tuple_cut ht hs pl pu (by rw[hlen];exact hw) ?_ (by rw[hlen];exact hz);rw[hlen];refine⟨.ref s.heap.objs.size,_,I.laid (t':=s.toks) (o:=.tup (vP xs lo hi)) (fun b ob q=>A2 _ q) (A7 _) ?_,rfl,q _ (I.hok.fresh (A7 _))⟩;exact⟨D3 (wI xs lo hi) hz,_,(r.drop (HT.sIx xs.length 0 lo)).take (HT.sIx xs.length xs.length hi-HT.sIx xs.length 0 lo),IsTup.new _ _⟩
noncomputable def VO(K:Fg):R2:=fun x y H Q=>∃a b xs ys,x=.ref a/\y=.ref b/\SqT K H a xs/\SqT K H b ys/\xs≠[]/\xs.length+ys.length<=sizeLine /\
 (ys=[]->Q (.ref a) H)/\(ys≠[]->∀p,H p=none->Q (.ref p) (upd H p (.tup (xs++ys))))
theorem bC.nil_iff{xs:List V}{us:List Value}(r:bC xs us):us=[]↔xs=[]:=by
 cases r with
 |nil=>simp
 |cons _ _=>simp
theorem aBs:OpR X (binaryOp .Add) (VO X.K):=by
 intro pins s σ H x y v u Q I rx ry h;obtain⟨a,b,xs,ys,rfl,rfl,ha,hb,hx,hz,q1,q2⟩:=h;cases rx;cases ry;obtain⟨its,r1,p1,_⟩:=I.tuple ha;obtain⟨its2,r2,p2,_⟩:=I.tuple hb;refine HT.cat_tup p1 p2 (fun z=>hx (r1.nil_iff.mp z)) (fun z=>⟨.ref a,H,I,rfl,q1 (r2.nil_iff.mp z)⟩) (fun z=>?_) (by rw[<- r1.length,<- r2.length];exact hz);refine⟨.ref s.heap.objs.size,_,I.laid (t':=s.toks) (o:=.tup (xs++ys)) (fun b ob q=>A2 _ q) (A7 _) ?_,rfl,q2 (fun w=>z (r2.nil_iff.mpr w)) _ (I.hok.fresh (A7 _))⟩;exact⟨by rw[B2];exact hz,_,r1.append r2,IsTup.new _ _⟩
end
noncomputable def ixN(n:Nat)(i:Int):Option Nat:=if 0<=i then(if i<n then some i.toNat else none)else if -(n:Int)<=i then some (i+n).toNat else none
noncomputable def atI{α:Type}(xs:List α)(i:Int):Option α:=(ixN xs.length i).bind fun j=>xs[j]?
theorem OM{n:Nat}{i:Int}{j:Nat}(h:ixN n i=some j):seqIndex? i n=some j/\j<n/\-(n:Int)<=i/\i<n:=by
 unfold ixN at h;by_cases h0:0<=i
 .rw[A4 h0]at h;by_cases h1:i<n
  .rw[A4 h1]at h;have e:i.toNat=j:=D2 h;exact⟨by rw[seqIndex_of h0 h1,e],by omega,by omega,h1⟩
  .rw[A5 h1]at h;cases h
 .rw[A5 h0]at h;by_cases h1:-(n:Int)<=i
  .rw[A4 h1]at h;have e:(i+n).toNat=j:=D2 h;exact⟨by rw[seqIndex_neg (by omega) h1,e],by omega,h1,by omega⟩
  .rw[A5 h1]at h;cases h
theorem EZ{α:Type}{xs:List α}{i:Int}{v:α}(h:atI xs i=some v):∃j,seqIndex? i xs.length=some j/\xs[j]?=some v/\j<xs.length/\-(xs.length:Int)<=i/\i<xs.length:=by
 unfold atI at h;cases e:ixN xs.length i with
 |none=>rw[e]at h;cases h
 |some j=>
  rw[e]at h;obtain⟨h1,h2,h3,h4⟩:=OM e;exact⟨j,h1,h,h2,h3,h4⟩
theorem uW{α:Type}{xs:List α}{j:Nat}{v:α}(h:xs[j]?=some v):atI xs (j:Int)=some v:=by
 have hj:j<xs.length:=(List.getElem?_eq_some_iff.mp h).1
 have e:ixN xs.length (j:Int)=some j:=by
  unfold ixN;rw[A4 (by omega),A4 (by omega)];simp
 unfold atI;rw[e];exact h
noncomputable def OB(b:Expr):Prop:=∀o i,subscripted b false o i=operate [o,i] (getItem o i)
noncomputable def IxR(X:Cx)(r:R2):Prop:=
 ∀(value slice:Expr)(pins:List (Addr×Obj))(s:Shared)(σ:St)(H:Hp)(x y:V)(v u:Value)(Q:VK),Inv X pins σ H s->RelV x v->RelV y u->r x y H Q->
  subscripted slice false v u=operate [v,u] (getItem v u)->wpAny (model X.prog X.w) X.A (subscriptTail value slice v u) (EP X pins σ Q) X.xe s
noncomputable def MtR(X:Cx)(id:String)(r:V->List V->Hp->VK->Prop):Prop:=
 ∀(pins:List (Addr×Obj))(s:Shared)(σ:St)(H:Hp)(x:V)(xs:List V)(v:Value)(us:List Value)(Q:VK),Inv X pins σ H s->RelV x v->bC xs us->r x xs H Q->
  wpAny (model X.prog X.w) X.A (call (.builtin id) (v::us)) (EP X pins σ Q) X.xe s
section
variable{X:Cx}{a b:Expr}{ta tb:TE}{pos:Pos}
theorem IxR.or{r r':R2}(h:IxR X r)(h':IxR X r'):IxR X (fun x y H Q=>r x y H Q\/r' x y H Q):=by
 intro value slice pins s σ H x y v u Q I rx ry q hs;rcases q with q|q
 .exact h value slice pins s σ H x y v u Q I rx ry q hs
 .exact h' value slice pins s σ H x y v u Q I rx ry q hs
theorem aHg{r:R2}(hr:IxR X r)(ha:PE X a ta)(hb:PE X b tb)(hs:OB b):PE X (.Subscript a b pos) (tOp r ta tb):=by
 intro pins s σ H Q I h;exact Subscript_ (aFe ha hb I h fun v u s2 x y H2 I2 rx ry q=>hr a b pins s2 σ H2 x y v u Q I2 rx ry q (hs _ _))
noncomputable def aHi(K:Fg):R2:=fun x y H Q=>∃p xs i v,x=.ref p/\y=.int i/\SqL K H p xs/\atI xs i=some v/\Q v H
noncomputable def aHR(K:Fg):R2:=fun x y H Q=>∃p xs i v,x=.ref p/\y=.int i/\SqT K H p xs/\atI xs i=some v/\Q v H
noncomputable def aHJ:R2:=fun x y H Q=>∃z i c,x=.str z/\y=.int i/\z.length<=sizeLine/\atI z.cps.toList i=some c/\Q (.str ⟨#[c]⟩) H
theorem ix_list:IxR X (aHi X.K):=by
 intro value slice pins s σ H x y v u Q I rx ry h hs;obtain⟨p,xs,i,z,rfl,rfl,hq,he,q⟩:=h;cases rx;obtain⟨t,rfl⟩:=ry;obtain⟨its,r,pl,hz⟩:=I.list hq;obtain⟨j,h1,h2,h3,h4,h5⟩:=EZ he;obtain⟨w,ew,rw'⟩:=r.get h2;have hl:=r.length;have hn:=vQ;have fin:EP X pins σ Q w s:=⟨z,H,I,rw',q⟩;by_cases h0:0<=i
 .have hj:i.toNat=j:=by
   rw[seqIndex_of h0 h5]at h1;exact D2 h1
  exact item_listR pl.isList h0 (by omega) (by rw[hj];simpa using ew) fin hs
 .have hj:(i+(its.toArray.size:Int)).toNat=j:=by
   rw[seqIndex_neg (by omega) h4]at h1;rw[C5,<- hl];exact D2 h1
  exact subscriptTail_builtinR (x:=w) pl.isList.typeIs slot_list_getitem.lookup
   (wpAny_getItem_list_neg (Q:=fun r s'=>r=w/\EP X pins σ Q r s') pl.isList (by omega) (by rw[C5]<;>omega) (by omega) (by rw[hj];simpa using ew) ⟨rfl,fin⟩) hs
theorem ix_tup:IxR X (aHR X.K):=by
 intro value slice pins s σ H x y v u Q I rx ry h hs;obtain⟨p,xs,i,z,rfl,rfl,hq,he,q⟩:=h;cases rx;obtain⟨t,rfl⟩:=ry;obtain⟨its,r,pl,hz⟩:=I.tuple hq;obtain⟨j,h1,h2,h3,h4,h5⟩:=EZ he;obtain⟨w,ew,rw'⟩:=r.get h2;have hl:=r.length;have hn:=vQ;have fin:EP X pins σ Q w s:=⟨z,H,I,rw',q⟩
 exact subscriptTail_builtinR (x:=w) pl.typeIs slot_tuple_getitem.lookup
  (getItem_tuple (j:=j) (Q:=fun r s'=>r=w/\EP X pins σ Q r s') pl (by omega) (by omega) (by rw[C5,<- hl];exact h1) (by simpa using ew) ⟨rfl,fin⟩) hs
theorem aFs:IxR X aHJ:=by
 intro value slice pins s σ H x y v u Q I rx ry h hs;obtain⟨z,i,c,rfl,rfl,hz,he,q⟩:=h;obtain⟨t,rfl⟩:=rx;obtain⟨t',rfl⟩:=ry;obtain⟨j,h1,h2,h3,h4,h5⟩:=EZ he;have hl:z.cps.toList.length=z.length:=by simp[Str.length]
 rw[hl]at h1 h4 h5;have hn:=vQ
 exact tail_any (typeIs_str s z t) slot_str_getitem.lookup (getItem_str (c:=c) (by
  have e1:decide (i < -(2 ^ 63:Int))=false:=B8 (by omega);have e2:decide (i>=2 ^ 63)=false:=B8 (by omega);rw[e1,e2,Bool.or_false]) (by rw[h1];simpa using h2) ⟨.str ⟨#[c]⟩,H,I.tok _,⟨_,rfl⟩,q⟩) hs
noncomputable def rIx(K:Fg):R2:=fun x y H Q=>aHi K x y H Q\/aHR K x y H Q\/aHJ x y H Q
theorem aDW:IxR X (rIx X.K):=ix_list.or (ix_tup.or aFs)
theorem LR(its:List Value)(n j:Nat)(u:Value):Obj.mapSeq (·.setIfInBounds j u) { cls:=.type "list",data:=.seq its.toArray n }={ cls:=.type "list",data:=.seq (its.set j u).toArray n }:=by
 simp[Obj.mapSeq]
theorem Inv.lst{pins:List (Addr×Obj)}{p:Addr}{xs:List V}(I:Inv X pins σ H s)(h:H p=some (.lst xs)):
 ∃(its:List Value)(n:Nat),bC xs its/\s.heap.get? p=some { cls:=.type "list",data:=.seq its.toArray n }/\xs.length<=sizeLine:=by
 obtain⟨z,its,n,r,e⟩:=I.hok p _ h;exact⟨its,n,r,e,z⟩
theorem Inv.lstUpd{pins:List (Addr×Obj)}{p:Addr}{xs ys:List V}{its its':List Value}{n n':Nat}{f:Obj->Obj}(I:Inv X pins σ H s)(h:H p=some (.lst xs))
 (ho:s.heap.get? p=some { cls:=.type "list",data:=.seq its.toArray n }) (hf:f { cls:=.type "list",data:=.seq its.toArray n }={ cls:=.type "list",data:=.seq its'.toArray n' }) (r:bC ys its') (hz:ys.length<=sizeLine) (t:Nat):
 Inv X pins σ (upd H p (.lst ys)) { s with heap:=s.heap.update p f,toks:=t }:=by
 have e:(s.heap.update p f).get? p=some { cls:=.type "list",data:=.seq its'.toArray n' }:=by
  rw[E9 f ho (by rw[hf]<;>rfl),hf]
 refine I.write (x:=p) (e:=p) (by rw[h];trivial) (.inl rfl) (fun b u hb q=>(D9 _ _ (F0 hb)).trans q) ⟨_,e⟩ ?_;exact⟨hz,its',n',r,e⟩
noncomputable def aDG:V->V->V->Hp->(Hp->Prop)->Prop:=fun o i v H Q=>∃p xs k j,o=.ref p/\i=.int k/\H p=some (.lst xs)/\ixN xs.length k=some j/\Q (upd H p (.lst (xs.set j v)))
theorem set_list:aFl X aDG:=by
 intro pins s σ H o i v ov iv u Q I ro ri rv h;obtain⟨p,xs,k,j,rfl,rfl,hp,hj,q⟩:=h;cases ro;obtain⟨t,rfl⟩:=ri;obtain⟨its,n,r,ho,hz⟩:=I.lst hp;obtain⟨h1,h2,h3,h4⟩:=OM hj;have hl:=r.length;have hn:=vQ
 have I':Inv X pins σ (upd H p (.lst (xs.set j v))) { s with heap:=s.heap.update p (Obj.mapSeq (·.setIfInBounds j u)) }:=
  I.lstUpd hp ho (LR its n j u) (r.set rv j) (by rw[Y6];exact hz) s.toks
 by_cases h0:0<=k
 .have hk:k.toNat=j:=by
   rw[seqIndex_of h0 h4]at h1;exact D2 h1
  exact PySem.W.ki_setAt ho h0 (by omega) (by rw[C5,<- hl];exact h4) (by rw[hk];exact⟨_,I',q⟩)
 .have hk:(k+(its.toArray.size:Int)).toNat=j:=by
   rw[seqIndex_neg (by omega) h3]at h1;rw[C5,<- hl];exact D2 h1
  exact PySem.W.ki_setBack ho (by omega) (by rw[C5,<- hl];exact h3) (by omega) (by rw[hk];exact⟨_,I',q⟩)
theorem HA(lo hi:Option Int)(n:Nat):(sliceBounds lo hi none n).1=((HT.sIx n 0 lo:Nat):Int)/\(sliceBounds lo hi none n).2.1=((HT.sIx n n hi:Nat):Int)/\(sliceBounds lo hi none n).2.2=1:=by
 refine⟨?_,?_,rfl⟩
 .cases lo with
  |none=>simp[sliceBounds,HT.sIx]
  |some i=>
   simp only[sliceBounds,HT.sIx,Option.getD_none,show(1:Int) > 0 by decide,if_true];by_cases h:i<0
   .simp only[h,if_true]<;>omega
   .simp only[h,if_false]<;>omega
 .cases hi with
  |none=>simp[sliceBounds,HT.sIx]
  |some i=>
   simp only[sliceBounds,HT.sIx,Option.getD_none,show(1:Int) > 0 by decide,if_true];by_cases h:i<0
   .simp only[h,if_true]<;>omega
   .simp only[h,if_false]<;>omega
theorem CS(its:List Value)(lo hi:Option Int):slicePick its.toArray lo hi none=((its.drop (HT.sIx its.length 0 lo)).take (HT.sIx its.length its.length hi-HT.sIx its.length 0 lo)).toArray:=by
 obtain⟨h1,h2,h3⟩:=HA lo hi its.toArray.size;unfold slicePick;rw[h1,h2,h3];simp only[sliceRange_one,pick_run,List.size_toArray]<;>rfl
noncomputable def aHT(K:Fg):V->Option Int->Option Int->Hp->VK->Prop:=fun x lo hi H Q=>∃a xs,x=.ref a/\SqL K H a xs/\∀p,H p=none->Q (.ref p) (upd H p (.lst (vP xs lo hi)))
theorem sl_list:SlR X (aHT X.K):=by
 intro pins s σ H x v vl vu lo hi sl Q I rx hs pl pu h;obtain⟨a,xs,rfl,hx,q⟩:=h;cases rx;obtain⟨its,r,ht,hz⟩:=I.list hx;have hlen:=r.length;refine⟨"list",_,slot_list_getitem.lookup,ht.isList.typeIs,?_⟩;refine wpAny_getItem_list_slice ht.isList hs pl pu .none (by simp) ?_ (by rw[C5]<;>omega);rw[CS,<- hlen];refine⟨.ref s.heap.objs.size,_,I.laid (t':=s.toks) (o:=.lst (vP xs lo hi)) (fun b ob q=>A2 _ q) (A7 _) ?_,rfl,q _ (I.hok.fresh (A7 _))⟩;exact⟨D3 (wI xs lo hi) hz,_,0,(r.drop (HT.sIx xs.length 0 lo)).take (HT.sIx xs.length xs.length hi-HT.sIx xs.length 0 lo),B0 _ rfl⟩
theorem GW:eD X (.builtin "len") (fun xs H Q=>∃p ys,xs=[.ref p]/\(SqL X.K H p ys\/SqT X.K H p ys)/\Q (.int ys.length) H):=by
 intro pins s σ H xs us Q I r h;obtain⟨p,ys,rfl,hq,q⟩:=h;obtain⟨u,rfl,rx⟩:=vals1 r;cases rx;have hn:=vQ;rcases hq with hq|hq
 .obtain⟨its,r',pl,hz⟩:=I.list hq;have hlen:=r'.length;exact Calls.call_len_list pl.isList (by simp only[List.size_toArray]<;>omega) ⟨.int ys.length,H,I.tok _,⟨s.toks+1,by rw[C5,hlen]⟩,q⟩
 .obtain⟨its,r',pl,hz⟩:=I.tuple hq;have hlen:=r'.length;exact len_tuple pl (by simp only[List.size_toArray]<;>omega) ⟨.int ys.length,H,I.tok _,⟨s.toks+1,by rw[C5,hlen]⟩,q⟩
theorem GZ:eD X (.type "list") (fun xs H Q=>∃p ys,xs=[.ref p]/\(SqL X.K H p ys\/SqT X.K H p ys)/\∀l,H l=none->Q (.ref l) (upd H l (.lst ys))):=by
 intro pins s σ H xs us Q I r h;obtain⟨p,ys,rfl,hq,q⟩:=h;obtain⟨u,rfl,rx⟩:=vals1 r;cases rx
 have fin:∀(its:List Value),bC ys its->ys.length<=sizeLine->∀(h':Heap)(c':Nat),(∀b o',s.heap.get? b=some o'->h'.get? b=some o')->
  h'.get? s.heap.objs.size=some { cls:=.type "list",dict:=none,data:=.seq its.toArray c',slots:=#[] }->EP X pins σ Q (.ref s.heap.objs.size) { s with heap:=h' }:=fun its r' hz h' c' kp e=>
  ⟨.ref s.heap.objs.size,_,I.laid (t':=s.toks) kp (A7 _) (show cK X.prog X.w _ h' _ (.lst ys)from⟨hz,its,c',r',e⟩),rfl,q _ (I.hok.fresh (A7 _))⟩
 rcases hq with hq|hq
 .obtain⟨its,r',pl,hz⟩:=I.list hq;have hlen:=r'.length;obtain⟨o,ho,hc,n,hd⟩:=pl.isList;exact call_list_seq p (.inl rfl) ho hc hd (fun h' c' kp e=>fin its r' hz h' c' kp e) (by simp only[List.size_toArray]<;>omega)
 .obtain⟨its,r',pl,hz⟩:=I.tuple hq;have hlen:=r'.length;obtain⟨o,ho,hc,n,hd⟩:=pl;exact call_list_seq p (.inr rfl) ho hc hd (fun h' c' kp e=>fin its r' hz h' c' kp e) (by simp only[List.size_toArray]<;>omega)
theorem CK:eD X (.type "tuple") (fun xs H Q=>∃p ys,xs=[.ref p]/\((SqL X.K H p ys/\∀l,H l=none->Q (.ref l) (upd H l (.tup ys)))\/(SqT X.K H p ys/\Q (.ref p) H))):=by
 intro pins s σ H xs us Q I r h;obtain⟨p,ys,rfl,h⟩:=h;obtain⟨u,rfl,rx⟩:=vals1 r;cases rx;rcases h with⟨hq,q⟩|⟨hq,q⟩
 .obtain⟨its,r',pl,hz⟩:=I.list hq;have hlen:=r'.length;refine call_tuple_list pl.isList (fun h' kp=>?_) (by simp only[List.size_toArray]<;>omega);have I1:Inv X pins σ H { s with heap:=h' }:=I.kept (t':=s.toks) kp
  have I2:Inv X pins σ (upd H h'.objs.size (.tup ys)) { s with heap:=h'.push { cls:=.type "tuple",data:=.seq its.toArray } }:=
   I1.laid (t':=s.toks) (fun b o e=>A2 _ e) (A7 _) (show cK X.prog X.w _ _ _ (.tup ys)from⟨hz,its,r',IsTup.new _ _⟩)
  exact⟨.ref h'.objs.size,_,I2,rfl,q _ (I1.hok.fresh (A7 _))⟩
 .obtain⟨its,r',pl,hz⟩:=I.tuple hq;exact call_tuple_same pl ⟨.ref p,H,I,rfl,q⟩
noncomputable def tyV(K:Fg)(T:String)(x:V)(H:Hp):Prop:=match x with
 |.str _=>T="str"
 |.int _=>T="int"
 |.ref p=>(T="list"/\∃xs,SqL K H p xs)\/(T="tuple"/\∃o,K.lookup p=some o/\o.cls=.type "tuple"/\o.dict=none) \/
  (T="dict"/\((∃kvs,H p=some (.dK kvs))\/∃kvs,H p=some (.dT kvs)))\/(T="set"/\∃S n,H p=some (.set S n))
 |_=>False
theorem aFw{pins:List (Addr×Obj)}{T:String}{x:V}{v:Value}(I:Inv X pins σ H s)(r:RelV x v)(ty:tyV X.K T x H):
 s.TypeIs v T/\∀a,v=.ref a->∃ob,s.heap.get? a=some ob/\ob.dict=none:=by
 cases x with
 |str z=>
  obtain⟨t,rfl⟩:=r;cases (show T="str" from ty);exact⟨typeIs_str s z t,fun _ e=>nomatch e⟩
 |int i=>
  obtain⟨t,rfl⟩:=r;cases (show T="int" from ty);exact⟨typeIs_int s i t,fun _ e=>nomatch e⟩
 |ref p=>
  cases r;rcases ty with⟨rfl,xs,hq⟩|⟨rfl,o,hk,hc,hd⟩|⟨rfl,hk⟩|⟨rfl,S,n,hk⟩
  .obtain⟨its,_,pl,_⟩:=I.list hq;refine⟨pl.isList.typeIs,fun a e=>?_⟩;cases e;obtain⟨o,n,e,c,hd,_⟩:=pl;exact⟨o,e,hd⟩
  .refine⟨⟨o,I.kIn p o hk,hc⟩,fun a e=>?_⟩;cases e;exact⟨o,I.kIn _ o hk,hd⟩
  .have z:∃o,s.heap.get? p=some o/\o.ExactDict:=by
    rcases hk with⟨kvs,hk⟩|⟨kvs,hk⟩
    .obtain⟨_,_,_,_,o,_,_,e,ex,_⟩:=I.hok p _ hk;exact⟨o,e,ex⟩
    .obtain⟨_,_,_,_,o,_,_,e,ex,_⟩:=I.hok p _ hk;exact⟨o,e,ex⟩
   obtain⟨o,e,ex⟩:=z;refine⟨⟨o,e,ex.1⟩,fun a e2=>?_⟩;cases e2;exact⟨o,e,ex.2.1⟩
  .obtain⟨o,_,_,_,e,ex,_⟩:=I.hok p _ hk;refine⟨⟨o,e,ex.1⟩,fun a e2=>?_⟩;cases e2;exact⟨o,e,ex.2.1⟩
 |_=>exact False.elim ty
noncomputable def tBM(K:Fg)(T:String)(r:V->List V->Hp->VK->Prop)(to:TE)(t:TA):TE:=fun σ H Q=>to σ H fun x H1=>tyV K T x H1/\t σ H1 fun xs H2=>r x xs H2 Q
variable{o e:Expr}{es:List Expr}{to:TE}{t:TA}{name:Str}{apos cpos:Pos}{T id:String}{r:V->List V->Hp->VK->Prop}
theorem aHI(pa:PlainAttrs T)(slot:Slot T name id)(hty:typeOf (.builtin id)=pure (.type "method_descriptor"))(hm:MtR X id r)(ho:PE X o to)(ha:PA X (e::es) t)
 (hbase:attributeBase o name X.env (eval o X.env)=eval o X.env:=by rfl)
 (hfew:((backTo cpos (starEach (e::es) X.env)).all (fun x=>!x.1)&&(backToKw cpos (keywordEach [] X.env)).all (fun x=>x.1.isSome)
  && decide ((e::es).length+([]:List Keyword).length+(if ([]:List Keyword).isEmpty then 0 else 1)<30))=true:=by rfl)
 (hline:(apos.endLine==cpos.line)=true:=by rfl) (hs:starEach (e::es) X.env=(false,eval e X.env)::starEach es X.env:=by rfl) (hplain:(backTo cpos (starEach es X.env)).any (·.1)=false:=by rfl):
 PE X (.Call (.Attribute o name apos) (e::es) [] cpos) (tBM X.K T r to t):=by
 intro pins s σ H Q I h;refine wpAny_Call_method_late hbase hfew hline rfl (thn (ho pins s σ H _ I h) fun v s1 ⟨x,H1,I1,r1,ty,q1⟩=>?_);obtain⟨h1,h2⟩:=aFw I1 r1 ty;refine⟨T,id,pa,slot,hty,h1,h2,?_⟩;have hA:=ha cpos pins s1 σ H1 _ I1 q1;rw[hs]at hA ⊢;refine Calls.callWith_builtin (by show(false || (backTo cpos (starEach es X.env)).any (·.1))=false;rw[hplain]<;>rfl) (Calls.evalArgs_plain ?_);exact thn hA fun us s2 ⟨vs,H2,I2,r2,q2⟩=>hm pins s2 σ H2 x vs v us Q I2 r1 r2 q2
end
noncomputable def MtM(X:Cx)(id:String)(r:V->List V->Hp->VK->Prop):Prop:=
 ∀(pins:List (Addr×Obj))(s:Shared)(σ:St)(H:Hp)(x:V)(xs:List V)(v:Value)(us:List Value)(Q:VK),Inv X pins σ H s->RelV x v->bC xs us->r x xs H Q->
  wpAny (model X.prog X.w) X.A (call (.builtin id) (v::us)) (EP X pins σ Q) X.xe s
theorem bC.one:∀{x:V}{us:List Value},bC [x] us->∃u,us=[u]/\RelV x u
 |_,_,.cons r .nil=>⟨_,rfl,r⟩
section
variable{X:Cx}{pins:List (Addr×Obj)}{σ:St}{H:Hp}{s:Shared}{l b:Addr}{xs ys zs:List V}
theorem Inv.lset{its its':List Value}{n:Nat}{f:Array Value->Array Value}{t':Nat}(I:Inv X pins σ H s)(hH:H l=some (.lst xs))
 (e:s.heap.get? l=some { cls:=.type "list",data:=.seq its.toArray n }) (hf:f its.toArray=its'.toArray) (hv:bC ys its') (hz:ys.length<=sizeLine):
 Inv X pins σ (upd H l (.lst ys)) { s with heap:=s.heap.update l (Obj.mapSeq f),toks:=t' }:=by
 have q:=PySem.IsL.update e f;rw[hf]at q;refine I.write (x:=l) (e:=l) (by rw[hH];exact trivial) (.inl rfl) (fun b' u hb hu=>(D9 s.heap (Obj.mapSeq f) (F0 hb)).trans hu) ⟨_,q⟩ ?_;exact⟨hz,its',_,hv,q⟩
theorem Inv.lnew{its:List Value}{t':Nat}(I:Inv X pins σ H s)(hv:bC ys its)(hz:ys.length<=sizeLine):
 Inv X pins σ (upd H s.heap.objs.size (.lst ys)) { s with heap:=s.heap.push { cls:=.type "list",data:=.seq its.toArray },toks:=t' }:=
 I.laid (fun _ _ q=>A2 _ q) (A7 _) ⟨hz,its,0,hv,B0 _ rfl⟩
theorem Inv.fresh(I:Inv X pins σ H s):H s.heap.objs.size=none:=I.hok.fresh (A7 _)
theorem Inv.lstM(I:Inv X pins σ H s)(hH:H l=some (.lst xs)):xs.length<=sizeLine/\∃(its:List Value)(n:Nat),bC xs its/\xs.length=its.length/\s.heap.get? l=some { cls:=.type "list",data:=.seq its.toArray n }:=by
 obtain⟨z,its,n,r,e⟩:=I.hok l _ hH;exact⟨z,its,n,r,r.length,e⟩
end
section
variable{X:Cx}
noncomputable def OH:V->List V->Hp->VK->Prop:=fun x vs H Q=>∃l xs y,x=.ref l/\vs=[y]/\H l=some (.lst xs)/\xs.length<sizeLine/\Q .non (upd H l (.lst (xs++[y])))
theorem SL:MtM X "list.append" OH:=by
 intro pins s σ H x vs v us Q I rx rv h;obtain⟨l,xs,y,rfl,rfl,hH,hz,q⟩:=h;cases rx;obtain⟨u,rfl,ru⟩:=rv.one;obtain⟨z,its,n,r,hl,e⟩:=I.lstM hH;refine call_meets F.slot_list_append ⟨_,e,rfl⟩ F.entry_list_append (F.args_list_append_2 _ _) (PySem.list_append l its.toArray n u (by rw[C5];omega)) ⟨e,?_⟩;refine⟨.non,_,I.lset (its':=its++[u]) hH e (by simp) (r.append (.cons ru .nil)) ?_,rfl,q⟩;rw[B2,List.length_singleton];omega
end
section
variable{κ:Type}[DecidableEq κ]
noncomputable def iB(kvs:List (κ×V))(k:κ):Option V:=(kvs.find? fun kv=>decide (kv.1=k)).map (·.2)
noncomputable def putK(kvs:List (κ×V))(k:κ)(v:V):List (κ×V):=
 if (kvs.any fun kv=>decide (kv.1=k))=true then kvs.map (fun kv=>if kv.1=k then(kv.1,v)else kv)else kvs++[(k,v)]
theorem zG{p:κ×V}{r:List (κ×V)}{k:κ}(e:p.1=k):iB (p::r) k=some p.2:=by simp[iB,List.find?_cons,e]
theorem zZ{p:κ×V}{r:List (κ×V)}{k:κ}(e:¬p.1=k):iB (p::r) k=iB r k:=by simp[iB,List.find?_cons,e]
theorem zW(k:κ):∀kvs:List (κ×V),(kvs.any fun kv=>decide (kv.1=k))=(iB kvs k).isSome
 |[]=>rfl
 |p::r=>by
  rw[L8];by_cases e:p.1=k
  .simp only[zG e,decide_eq_true e,Bool.true_or,Option.isSome_some]
  .rw[zZ e,B8 e,Bool.false_or];exact zW k r
theorem iK(kvs:List (κ×V))(k:κ)(v:V):(putK kvs k v).length<=kvs.length+1:=by
 unfold putK;split
 .rw[A9];omega
 .rw[B2,C7,L7];omega
theorem aAq{kvs:List (κ×V)}{k:κ}(v:V)(h:iB kvs k=none):putK kvs k v=kvs++[(k,v)]:=by
 unfold putK;rw[zW,h];exact A5 (by decide)
theorem nJ.isSome_eq{o:Option V}{u:Option Value}(r:nJ o u):o.isSome=u.isSome:=by
 cases o with
 |none=>cases u with
  |none=>rfl
  |some _=>exact(show False from r).elim
 |some _=>cases u with
  |none=>exact(show False from r).elim
  |some _=>rfl
theorem nJ.getD{o:Option V}{u:Option Value}{d:V}{d':Value}(r:nJ o u)(rd:RelV d d'):RelV (o.getD d) (u.getD d'):=by
 cases o with
 |none=>cases u with
  |none=>exact rd
  |some _=>exact(show False from r).elim
 |some _=>cases u with
  |none=>exact(show False from r).elim
  |some _=>exact r
theorem KV.val{kvs:List (κ×V)}{vs:List (κ×Value)}(r:KV kvs vs)(k:κ):nJ (iB kvs k) (valueAt vs k):=by
 unfold KV at r
 induction r with
 |nil=>exact True.intro
 |@cons p q ps qs h t ih=>
  obtain⟨h1,h2⟩:=h;by_cases e:p.1=k
  .have e':q.1=k:=h1.symm.trans e;have b:valueAt (q::qs) k=some q.2:=by simp[valueAt,List.find?_cons,e']
   rw[zG e,b];exact h2
  .have e':¬q.1=k:=fun z=>e (h1.trans z);have b:valueAt (q::qs) k=valueAt qs k:=by simp[valueAt,List.find?_cons,e']
   rw[zZ e,b];exact ih
theorem KV.any{kvs:List (κ×V)}{vs:List (κ×Value)}(r:KV kvs vs)(k:κ):(kvs.any fun kv=>decide (kv.1=k))=vs.any fun kv=>decide (kv.1=k):=by
 unfold KV at r
 induction r with
 |nil=>rfl
 |cons h t ih=>rw[L8,L8,ih,h.1]
theorem KV.repl{kvs:List (κ×V)}{vs:List (κ×Value)}(r:KV kvs vs)(k:κ){y:V}{u:Value}(ry:RelV y u):
 KV (kvs.map fun kv=>if kv.1=k then(kv.1,y)else kv) (vs.map fun kv=>if kv.1=k then(kv.1,u)else kv):=by
 unfold KV at r ⊢
 induction r with
 |nil=>exact .nil
 |@cons p q ps qs h t ih=>
  rw[C3,C3];refine .cons ?_ ih;obtain⟨h1,h2⟩:=h;by_cases e:p.1=k
  .rw[A4 e,A4 (h1.symm.trans e)];exact⟨h1,ry⟩
  .rw[A5 e,A5 (fun z=>e (h1.trans z))];exact⟨h1,h2⟩
theorem KV.put{kvs:List (κ×V)}{vs:List (κ×Value)}(r:KV kvs vs)(k:κ){y:V}{u:Value}(ry:RelV y u):KV (putK kvs k y) (stored vs k u):=by
 unfold putK stored;rw[r.any k];by_cases e:(vs.any fun kv=>decide (kv.1=k))=true
 .rw[A4 e,A4 e];exact r.repl k ry
 .rw[A5 e,A5 e];exact Paired.snoc r ⟨rfl,ry⟩
theorem KV.length{kvs:List (κ×V)}{vs:List (κ×Value)}(r:KV kvs vs):kvs.length=vs.length:=Z4 r
end
theorem yU{P:Program}{w:World}{k:Key}{u:Value}(r:RelV (kV k) u):(cS P w).is k u=true:=by
 cases k with
 |inl i=>obtain⟨t,e⟩:=(show ∃t,u=Value.int i t from r);subst e;exact JG P w i t
 |inr x=>obtain⟨t,e⟩:=(show ∃t,u=Value.str x t from r);subst e;exact JS P w x t
theorem DF{P:Program}{w:World}:∀{ks:List Key}{us:List Value},bC (ks.map kV) us->ItemsAre (cS P w) ks us
 |[],_=>fun r=>by rw[List.map_nil]at r;cases r;exact .nil
 |k::ks,_=>fun r=>by
  rw[C3]at r;cases r with
  |cons h t=>exact .cons (yU h) (DF t)
noncomputable abbrev KT(H:Hp):List (List Key×V)->List (List Key×Addr×Value)->Prop:=Paired fun p q=>p.1=q.1/\H q.2.1=some (.tup (p.1.map kV))/\RelV p.2 q.2.2
theorem KT.val{kvs:List (List Key×V)}{xs:List (List Key×Addr×Value)}(r:KT H kvs xs)(k:List Key):nJ (iB kvs k) ((atKey xs k).map (·.2)):=by
 induction r with
 |nil=>exact True.intro
 |@cons p q ps qs h t ih=>
  obtain⟨h1,_,h2⟩:=h;by_cases e:p.1=k
  .have e':q.1=k:=h1.symm.trans e;have b:atKey (q::qs) k=some q.2:=by simp[atKey,List.find?_cons,e']
   rw[zG e,b];exact h2
  .have e':¬q.1=k:=fun z=>e (h1.trans z);have b:atKey (q::qs) k=atKey qs k:=by simp[atKey,List.find?_cons,e']
   rw[zZ e,b];exact ih
theorem KT.repl{kvs:List (List Key×V)}{xs:List (List Key×Addr×Value)}(r:KT H kvs xs)(k:List Key){y:V}{u:Value}(ry:RelV y u):
 KT H (kvs.map fun kv=>if kv.1=k then(kv.1,y)else kv) (xs.map (putAt k u)):=by
 induction r with
 |nil=>exact .nil
 |@cons p q ps qs h t ih=>
  rw[C3,C3];refine .cons ?_ ih;obtain⟨h1,h2,h3⟩:=h;unfold putAt;by_cases e:p.1=k
  .rw[A4 e,A4 (h1.symm.trans e)];exact⟨h1,h2,ry⟩
  .rw[A5 e,A5 (fun z=>e (h1.trans z))];exact⟨h1,h2,h3⟩
theorem KT.put{kvs:List (List Key×V)}{xs:List (List Key×Addr×Value)}(r:KT H kvs xs)(k:List Key){b:Addr}{y:V}{u:Value}(hb:H b=some (.tup (k.map kV)))(ry:RelV y u):
 KT H (putK kvs k y) (storedH xs k b u):=by
 have e:(kvs.any fun kv=>decide (kv.1=k))=(atKey xs k).isSome:=by
  rw[zW,(r.val k).isSome_eq,Option.isSome_map]
 unfold putK storedH;rw[e];by_cases q:(atKey xs k).isSome=true
 .rw[A4 q,A4 q];exact r.repl k ry
 .rw[A5 q,A5 q];exact Paired.snoc r ⟨rfl,hb,ry⟩
theorem KT.keeps{H':Hp}{kvs:List (List Key×V)}{xs:List (List Key×Addr×Value)}(r:KT H kvs xs)(ht:∀b ys,H b=some (.tup ys)->H' b=some (.tup ys)):KT H' kvs xs:=
 Paired.mapP r fun _ _ z=>⟨z.1,ht _ _ z.2.1,z.2.2⟩
section
variable{P:Program}{w:World}{H:Hp}{h:Heap}{a:Addr}
theorem aDq{u:HO}(ok:HOk P w H h)(e:Rd H a u):cK P w H h a u:=e.ok ok
theorem DE{kvs:List (Key×V)}(ok:HOk P w H h)(e:Rd H a (.dK kvs)):kvs.length<=sizeLine/\(a==sysModules)=false/\∃vs,KV kvs vs/\h.DictOf (cS P w) a vs:=
 show cK P w H h a (.dK kvs)from aDq ok e
theorem YU{kvs:List (Key×V)}(ok:HOk P w H h)(e:H a=some (.dK kvs)):kvs.length<=sizeLine/\(a==sysModules)=false/\∃vs,KV kvs vs/\h.DictOf (cS P w) a vs:=DE ok (.inl e)
theorem vS{ks:List Key}(ok:HOk P w H h)(e:H a=some (.tup (ks.map kV))):(tupleKind (cS P w)).is h ks a:=by
 obtain⟨_,its,r,o,h1,h2,n,h3⟩:=(show cK P w H h a (.tup (ks.map kV))from ok a _ e);exact⟨o,its.toArray,n,h1,h2,h3,by simpa using DF r⟩
theorem DH{kvs:List (List Key×V)}(ok:HOk P w H h)(e:Rd H a (.dT kvs)):kvs.length<=sizeLine/\(a==sysModules)=false /\
 ∃xs,KT H kvs xs/\h.DictOfH (tupleKind (cS P w)) a xs:=by
 obtain⟨z,y,xs,r,o,es,ep,h1,h2,h3,h4,h5⟩:=(show cK P w H h a (.dT kvs)from aDq ok e);refine⟨z,y,xs,r,o,es,ep,h1,h2,h3,h4,fun x hx=>?_,h5⟩
 have all:∀{l:List (List Key×V)}{m:List (List Key×Addr×Value)},KT H l m->∀x∈m,(tupleKind (cS P w)).is h x.1 x.2.1:=by
  intro l m q
  induction q with
  |nil=>intro x hx;exact nomatch hx
  |@cons p q ps qs hq t ih=>
   intro x hx;rcases List.mem_cons.mp hx with e|hx
   .subst e;exact vS ok (by rw[<- hq.1];exact hq.2.1)
   .exact ih x hx
 exact all r x hx
theorem aDg{kvs:List (List Key×V)}(ok:HOk P w H h)(e:H a=some (.dT kvs)):kvs.length<=sizeLine/\(a==sysModules)=false /\
 ∃xs,KT H kvs xs/\h.DictOfH (tupleKind (cS P w)) a xs:=DH ok (.inl e)
end
noncomputable def uS(H:Hp)(a:Addr)(y:V)(r:Option V):Prop:=
 (∃kvs k,Rd H a (.dK kvs)/\y=kV k/\r=iB kvs k)\/∃kvs k b,Rd H a (.dT kvs)/\y=.ref b/\H b=some (.tup (k.map kV))/\r=iB kvs k
noncomputable def qK(H:Hp)(a:Addr)(y v:V)(H':Hp):Prop:=
 (∃kvs k,H a=some (.dK kvs)/\y=kV k/\kvs.length<sizeLine/\H'=upd H a (.dK (putK kvs k v))) \/
 ∃kvs k b,H a=some (.dT kvs)/\y=.ref b/\H b=some (.tup (k.map kV))/\kvs.length<sizeLine/\H'=upd H a (.dT (putK kvs k v))
theorem uS.k{a:Addr}{kvs:List (Key×V)}{k:Key}(e:H a=some (.dK kvs)):uS H a (kV k) (iB kvs k):=.inl ⟨kvs,k,.inl e,rfl,rfl⟩
theorem uS.t{a b:Addr}{kvs:List (List Key×V)}{k:List Key}(e:H a=some (.dT kvs))(eb:H b=some (.tup (k.map kV))):uS H a (.ref b) (iB kvs k):=.inr ⟨kvs,k,b,.inl e,rfl,eb,rfl⟩
theorem qK.k{a:Addr}{kvs:List (Key×V)}{k:Key}{v:V}(e:H a=some (.dK kvs))(hl:kvs.length<sizeLine):qK H a (kV k) v (upd H a (.dK (putK kvs k v))):=.inl ⟨kvs,k,e,rfl,hl,rfl⟩
theorem qK.t{a b:Addr}{kvs:List (List Key×V)}{k:List Key}{v:V}(e:H a=some (.dT kvs))(eb:H b=some (.tup (k.map kV)))(hl:kvs.length<sizeLine):
 qK H a (.ref b) v (upd H a (.dT (putK kvs k v))):=.inr ⟨kvs,k,b,e,rfl,eb,hl,rfl⟩
section
variable{X:Cx}{pins:List (Addr×Obj)}{σ:St}{H:Hp}{s:Shared}{a:Addr}{y v:V}{u r:Value}{o:Option V}{A:Around}{E:Value->Shared->Prop}
theorem Inv.big(I:Inv X pins σ H s):sysModules<s.heap.objs.size:=by
 have h:mainGlobals<s.heap.objs.size:=(I.mod.glob.keeps I.bk).lt;exact O1 (by decide) h
theorem TX{Q:Value->Shared->Prop}(hu:A.units+1<cLine)(I:Inv X pins σ H s)(g:uS H a y (some v))(ry:RelV y u)(h:∀w' s',Inv X pins σ H s'->RelV v w'->Q w' s'):
 wpAny (model X.prog X.w) A (getItem (.ref a) u) Q E s:=by
 rcases g with⟨kvs,k,e,ey,l⟩|⟨kvs,k,b,e,ey,eb,l⟩
 .subst ey;obtain⟨z,hd,vs,rel,dd⟩:=DE I.hok e;obtain⟨w',hw,rw'⟩:=nJ.some_of (v:=v) (o:=valueAt vs k) (by rw[l];exact rel.val k);exact wpAny_getItem_of (yU ry) dd.mapOf hw (h w' _ (I.tok _) rw')
 .subst ey;cases (show u=Value.ref b from ry);obtain⟨z,hd,xs,rel,dd⟩:=DH I.hok e;obtain⟨w',hw,rw'⟩:=nJ.some_of (v:=v) (o:=(atKey xs k).map (·.2)) (by rw[l];exact rel.val k);obtain⟨p,hp,hp2⟩:=Option.map_eq_some_iff.mp hw;refine wpAny_getItem_heap (A0c hu) (vS I.hok eb) dd hp ?_;rw[hp2];exact h w' _ (I.tok _) rw'
theorem aIX{Q:Value->Shared->Prop}(hu:A.units+1<cLine)(I:Inv X pins σ H s)(g:uS H a y o)(ry:RelV y u)(h:∀s',Inv X pins σ H s'->Q (.bool o.isSome) s'):
 wpAny (model X.prog X.w) A (compareOp .In u (.ref a)) Q E s:=by
 rcases g with⟨kvs,k,e,ey,l⟩|⟨kvs,k,b,e,ey,eb,l⟩
 .subst ey;obtain⟨z,hd,vs,rel,dd⟩:=DE I.hok e;refine wpAny_in_of (yU ry) hd dd.mapOf ?_;rw[<- (rel.val k).isSome_eq,<- l];exact h _ (I.tok _)
 .subst ey;cases (show u=Value.ref b from ry);obtain⟨z,hd,xs,rel,dd⟩:=DH I.hok e;refine wpAny_in_heap (A0c hu) (vS I.hok eb) hd dd ?_;have q:=(rel.val k).isSome_eq;rw[Option.isSome_map]at q;rw[<- q,<- l];exact h _ (I.tok _)
theorem rH{h':Heap}{t':Nat}{ob:HO}(I:Inv X pins σ H s)(mu:Mut (H a))(hs:Heap.SameBut a s.heap h')(he:∃q,h'.get? a=some q)(new:cK X.prog X.w (upd H a ob) h' a ob):
 Inv X pins σ (upd H a ob) { s with heap:=h',toks:=t' }:=
 I.write (x:=a) (e:=a) mu (.inl rfl) (fun b q hb z=>(hs.2 b hb).trans z) he new
theorem NJ{P:Program}{w:World}{H':Hp}{h':Heap}{kvs:List (Key×V)}{vs:List (Key×Value)}(z:kvs.length<=sizeLine)(hd:(a==sysModules)=false)(rel:KV kvs vs)(dd:h'.DictOf (cS P w) a vs):
 cK P w H' h' a (.dK kvs):=⟨z,hd,vs,rel,dd⟩
theorem UB{H':Hp}{Q:Unit->Shared->Prop}(hu:A.units+1<cLine)(I:Inv X pins σ H s)(g:qK H a y v H')(ry:RelV y u)(rv:RelV v r)(h:∀s',Inv X pins σ H' s'->Q () s'):
 wpAny (model X.prog X.w) A (setItem (.ref a) u r) Q E s:=by
 rcases g with⟨kvs,k,e,ey,l,eH⟩|⟨kvs,k,b,e,ey,eb,l,eH⟩
 .subst ey eH;obtain⟨z,hd,vs,rel,dd⟩:=YU I.hok e;have hz:vs.length<=sizeLine:=by rw[<- rel.length];exact z
  have hl:(putK kvs k v).length<=sizeLine:=by have:=iK kvs k v;omega
  refine wpAny_setItem_pairs (hsz:=hz) (yU ry) dd fun h' dd' hs=>h _ ?_;have he:∃q,h'.get? a=some q:=let⟨q,_,_,hq,_⟩:=dd';⟨q,hq⟩;exact rH I (by rw[e];exact True.intro) hs he (NJ hl hd (rel.put k rv) dd')
 .subst ey eH;cases (show u=Value.ref b from ry);obtain⟨z,hd,xs,rel,dd⟩:=aDg I.hok e;have hz:xs.length<=sizeLine:=by rw[<- Z4 rel];exact z
  have hl:(putK kvs k v).length<=sizeLine:=by have:=iK kvs k v;omega
  refine wpAny_setItem_heap (hsz:=hz) (A0c hu) (vS I.hok eb) dd fun h' dd' hs=>h _ ?_;obtain⟨q,es,ep,hq,h2,h3,h4,_,h5⟩:=dd';refine rH I (by rw[e];exact True.intro) hs ⟨q,hq⟩ ⟨hl,hd,_,(rel.put k eb rv).keeps fun c ys ec=>?_,q,es,ep,hq,h2,h3,h4,h5⟩;rw[aJ (wD ec e (fun z=>nomatch z))];exact ec
end
noncomputable def aFp(i:Expr):Prop:=∀ov iv,subscripted i false ov iv=operate [ov,iv] (getItem ov iv)
theorem aCg{prog:Program}{w:World}{A:Around}{E:Value->Shared->Prop}{s:Shared}{env:Env}{value slice:Expr}{pos:Pos}{T id:String}{Q:Value->Shared->Prop}
 (hl:typeLookup (.type T) "__getitem__"=pure (some (.builtin id))) (hs:aFp slice)
 (h:wpAny (model prog w) A (eval value env) (fun o s₁=>wpAny (model prog w) A (eval slice env) (fun i s₂=>s₂.TypeIs o T/\wpAny (model prog w) A (getItem o i) Q E s₂) E s₁) E s):
 wpAny (model prog w) A (eval (.Subscript value slice pos) env) Q E s:=by
 refine Subscript_ (D0 h (fun o s₁ h₁=>D0 h₁ (fun i s₂ h₂=>?_) fun _ _ x=>x) fun _ _ x=>x);obtain⟨hT,h₂⟩:=h₂;unfold subscriptTail;refine A0 ?_;rw[getitemInPython_of_ne hT.not_modules];refine A0 (wpAny_specialOf hT hl ?_)
 have fin:wpAny (model prog w) A (subscripted slice false o i) (fun r s₃=>wpAny (model prog w) A (letTemporaryGo value o r >>= fun _=>pure r) Q E s₃) E s₂:=by
  rw[hs o i];exact wpAny_operating (D0 h₂ (fun r s₃ h₃=>A0 (wpAny_letTemporaryGo (A3 h₃))) fun _ _ x=>x)
 first
  |exact A3 (A0 fin)
  |exact A0 (A3 (A0 fin))
  |exact A0 fin
theorem JN{X:Cx}{pins:List (Addr×Obj)}{a:Addr}{y:V}{o:Option V}(I:Inv X pins σ H s)(g:uS H a y o):s.TypeIs (.ref a) "dict":=by
 rcases g with⟨kvs,k,e,_,_⟩|⟨kvs,k,b,e,_,_,_⟩
 .obtain⟨_,_,vs,_,dd⟩:=DE I.hok e;exact dd.typeIs
 .obtain⟨_,_,xs,_,dd⟩:=DH I.hok e;exact dd.typeIs
noncomputable def aDk(td ty:TE):TE:=fun σ H Q=>td σ H fun x H1=>ty σ H1 fun y H2=>∃a v,x=.ref a/\uS H2 a y (some v)/\Q v H2
noncomputable def aIt(ty td:TE):TE:=fun σ H Q=>ty σ H fun y H1=>td σ H1 fun x H2=>∃a o,x=.ref a/\uS H2 a y o/\Q (.bl o.isSome) H2
noncomputable def aDR(td ty tv:TE):TS:=fun D σ H=>tv σ H fun v H1=>td σ H1 fun x H2=>ty σ H2 fun y H3=>∃a H4,x=.ref a/\qK H3 a y v H4/\D.nx σ H4
section
variable{X:Cx}{o i e value:Expr}{pos pos' tpos:Pos}{td ty tv:TE}
theorem aBU(hu:X.A.units+1<cLine)(ho:PE X o td)(hi:PE X i ty)(hs:aFp i):PE X (.Subscript o i pos) (aDk td ty):=by
 intro pins s σ H Q I h;refine aCg PySem.F.slot_dict_getitem.lookup hs (thn (ho pins s σ H _ I h) fun u s1 ⟨x,H1,I1,rx,q1⟩=>thn (hi pins s1 σ H1 _ I1 q1) fun iv s2 ⟨y,H2,I2,ry,a,v,ex,g,q2⟩=>?_);subst ex;obtain rfl:u=Value.ref a:=rx;exact⟨JN I2 g,TX hu I2 g ry fun w' s3 I3 rw'=>⟨v,H2,I3,rw',q2⟩⟩
theorem aEo(hu:X.A.units+1<cLine)(hi:PE X i ty)(ho:PE X o td):PC X .In i o (aIt ty td):=by
 intro pins s σ H Q I h;refine thn (hi pins s σ H _ I h) fun iv s1 ⟨y,H1,I1,ry,q1⟩=>thn (ho pins s1 σ H1 _ I1 q1) fun u s2 ⟨x,H2,I2,rx,a,ov,ex,g,q2⟩=>?_;subst ex;obtain rfl:u=Value.ref a:=rx;exact aIX hu I2 g ry fun s3 I3=>⟨.bl ov.isSome,H2,I3,rfl,q2⟩
theorem aCP(hu:X.A.units+1<cLine)(ho:PE X o td)(hi:PE X i ty)(hv:PE X value tv)(hs:swapsWith value (some (.Subscript o i pos')) pos.line X.env=pure false):
 PS X (.Assign [.Subscript o i pos'] value pos) (aDR td ty tv):=by
 intro pins s σ H D I h;refine wpAny_Assign_Subscript (thn (hv pins s σ H _ I h) fun r s1 ⟨v,H1,I1,rv,q1⟩=>thn (ho pins s1 σ H1 _ I1 q1) fun u s2 ⟨x,H2,I2,rx,q2⟩=>thn (hi pins s2 σ H2 _ I2 q2) fun iv s3 ⟨y,H3,I3,ry,a,H4,ex,g,q3⟩=>?_) hs;subst ex;obtain rfl:u=Value.ref a:=rx;exact UB hu I3 g ry rv fun s4 I4=>⟨σ,H4,I4,q3⟩
end
theorem BH{P:Program}{w:World}(h:Heap)(hb:sysModules<h.objs.size):cK P w H (h.push { cls:=.type "dict",data:=.dict #[] }) h.objs.size (.dK []):=
 ⟨E3 _,beq_eq_false_iff_ne.mpr (F0 (B6 hb)),[],.nil,Heap.DictOf.new h⟩
theorem zL{P:Program}{w:World}(h:Heap)(hb:sysModules<h.objs.size):cK P w H (h.push { cls:=.type "dict",data:=.dict #[] }) h.objs.size (.dT []):=
 ⟨E3 _,beq_eq_false_iff_ne.mpr (F0 (B6 hb)),[],.nil,_,#[],0,B0 _ rfl,⟨rfl,rfl,rfl⟩,rfl,rfl,List.nodup_nil⟩
noncomputable def ZF:TE:=fun _ H Q=>∀p,H p=none->Q (.ref p) (upd H p (.dK []))
noncomputable def WE:TE:=fun _ H Q=>∀p,H p=none->Q (.ref p) (upd H p (.dT []))
section
variable{X:Cx}{pos:Pos}
theorem YI:PE X (.Dict [] [] pos) ZF:=fun pins s σ H Q I h=>
 wpAny_Dict_empty ⟨.ref s.heap.objs.size,_,I.laid (a:=s.heap.objs.size) (o:=.dK []) (t':=s.toks) (fun _ _ q=>A2 _ q) (A7 _) (BH s.heap I.big),rfl,h _ (I.hok.fresh (A7 _))⟩
theorem VP:PE X (.Dict [] [] pos) WE:=fun pins s σ H Q I h=>
 wpAny_Dict_empty ⟨.ref s.heap.objs.size,_,I.laid (a:=s.heap.objs.size) (o:=.dT []) (t':=s.toks) (fun _ _ q=>A2 _ q) (A7 _) (zL s.heap I.big),rfl,h _ (I.hok.fresh (A7 _))⟩
end
noncomputable def GE:List (TE×TE)->St->Hp->(List (V×V)->Hp->Prop)->Prop
 |[],_,H,Q=>Q [] H
 |(tk,tv)::r,σ,H,Q=>tk σ H fun x H1=>tv σ H1 fun y H2=>GE r σ H2 fun ps H3=>Q ((x,y)::ps) H3
noncomputable abbrev VV:List (V×V)->List (Value×Value)->Prop:=Paired fun p q=>RelV p.1 q.1/\RelV p.2 q.2
noncomputable def PPs(X:Cx)(pos:Pos)(keys:List (Option Expr))(values:List Expr)(trs:List (TE×TE)):Prop:=
 ∀(pins:List (Addr×Obj))(s:Shared)(σ:St)(H:Hp)(Q:List (V×V)->Hp->Prop),Inv X pins σ H s->GE trs σ H Q->
  wpAny (model X.prog X.w) X.A (evalPairs (pairTrees keys values X.env pos)) (fun vs s'=>∃ps H',Inv X pins σ H' s'/\VV ps vs/\Q ps H') X.xe s
theorem aBY{X:Cx}:PPs X pos [] [] []:=fun pins s σ H Q I h=>pairTrees_nil_walk ⟨[],H,I,.nil,h⟩
theorem aAj{X:Cx}{k v:Expr}{ks:List (Option Expr)}{vs:List Expr}{tk tv:TE}{trs:List (TE×TE)}(hk:PE X k tk)(hv:PE X v tv)(hr:PPs X pos ks vs trs):
 PPs X pos (some k::ks) (v::vs) ((tk,tv)::trs):=fun pins s σ H Q I h=>
 pairTrees_cons_walk (thn (hk pins s σ H _ I h) fun u s1 ⟨x,H1,I1,rx,q1⟩=>thn (hv pins s1 σ H1 _ I1 q1) fun w2 s2 ⟨y,H2,I2,ry,q2⟩=>
  thn (hr pins s2 σ H2 _ I2 q2) fun ws s3 ⟨ps,H3,I3,rel,q3⟩=>⟨(x,y)::ps,H3,I3,.cons ⟨rx,ry⟩ rel,q3⟩)
noncomputable def qH(kvs more:List (Key×V)):List (Key×V):=more.foldl (fun acc kv=>putK acc kv.1 kv.2) kvs
theorem KV.merge:∀{more:List (Key×V)}{rs:List (Key×Value)}{kvs:List (Key×V)}{vs:List (Key×Value)},KV more rs->KV kvs vs->KV (qH kvs more) (merged vs rs):=by
 intro more rs kvs vs r;unfold KV at r
 induction r generalizing kvs vs with
 |nil=>intro q;exact q
 |@cons p q ps qs h t ih=>
  intro r0
  have e:KV (putK kvs p.1 p.2) (stored vs q.1 q.2):=by
   have:=r0.put p.1 h.2;rw[<- h.1];exact this
  exact ih e
theorem rV:∀(more kvs:List (Key×V)),(qH kvs more).length<=kvs.length+more.length
 |[]=>fun kvs=>by show kvs.length<=kvs.length+0;omega
 |p::r=>fun kvs=>by
  have h1:=rV r (putK kvs p.1 p.2);have h2:=iK kvs p.1 p.2;show(qH (putK kvs p.1 p.2) r).length<=_;rw[C7];omega
theorem zA{P:Program}{w:World}:∀{kvs:List (Key×V)}{ws:List (Value×Value)},VV (kvs.map fun kv=>(kV kv.1,kv.2)) ws->∃rs,Carries (cS P w) ws rs/\KV kvs rs
 |[],_=>fun r=>by rw[List.map_nil]at r;cases r;exact⟨[],True.intro,.nil⟩
 |p::kvs,_=>fun r=>by
  rw[C3]at r;cases r with
  |@cons a b as bs h t=>
   obtain⟨rs,c,q⟩:=zA (P:=P) (w:=w) t;obtain⟨b1,b2⟩:=b;exact⟨(p.1,b2)::rs,⟨yU h.1,rfl,c⟩,.cons ⟨rfl,h.2⟩ q⟩
noncomputable def aDj(trs:List (TE×TE)):TE:=fun σ H Q=>∀p,H p=none->GE trs σ (upd H p (.dK [])) fun ps H2=>H2 p=some (.dK [])/\∃kvs:List (Key×V),ps=kvs.map (fun kv=>(kV kv.1,kv.2))/\kvs.length<=15/\Q (.ref p) (upd H2 p (.dK (qH [] kvs)))
theorem aCH{X:Cx}{keys:List (Option Expr)}{values:List Expr}{trs:List (TE×TE)}(h:PPs X pos keys values trs)(hall:keys.all (·.isSome)=true)(hl:keys.length=values.length)(h0:keys≠[])
 (h15:keys.length<=15):PE X (.Dict keys values pos) (aDj trs):=by
 intro pins s σ H Q I q;have hn:=I.hok.fresh (A7 s.heap.objs.size);have I1:=I.laid (a:=s.heap.objs.size) (o:=.dK []) (h':=s.heap.push { cls:=.type "dict",data:=.dict #[] }) (t':=s.toks) (fun _ _ q=>A2 _ q) (A7 _) (BH s.heap I.big);refine wpAny_Dict_walk (knd:=cS X.prog X.w) hall hl h0 h15 (thn (h pins _ σ _ _ I1 (q _ hn)) fun ws s2 ⟨ps,H2,I2,rel,e,kvs,ep,lk,q2⟩=>?_);subst ep;obtain⟨rs,c,rk⟩:=zA (P:=X.prog) (w:=X.w) rel;obtain⟨z,hd,vs0,r0,dd⟩:=YU I2.hok e;cases r0;refine⟨rs,c,dd,fun h' dd' hs=>⟨.ref s.heap.objs.size,_,?_,rfl,q2⟩⟩
 have hz:(qH [] kvs).length<=sizeLine:=by
  have h1:=rV kvs [];rw[L7]at h1;rw[D5];omega
 have he:∃q,h'.get? s.heap.objs.size=some q:=let⟨q,_,_,hq,_⟩:=dd';⟨q,hq⟩;exact rH I2 (by rw[e];exact True.intro) hs he (NJ hz hd (rk.merge .nil) dd')
structure M1(X:Cx)(o:Expr)(m:Str)(apos:Pos)(e:Expr)(cpos:Pos):Prop where
 base:attributeBase o m X.env (eval o X.env)=eval o X.env
 few:((backTo cpos (starEach [e] X.env)).all (fun x=>!x.1)&&(backToKw cpos (keywordEach [] X.env)).all (fun x=>x.1.isSome)
  && decide (([e]:List Expr).length+([]:List Keyword).length+(if ([]:List Keyword).isEmpty then 0 else 1)<30))=true
 line:(apos.endLine==cpos.line)=true
 trees:backTo cpos (starEach [e] X.env)=[(false,eval e X.env)]
structure M2(X:Cx)(o:Expr)(m:Str)(apos:Pos)(e f:Expr)(cpos:Pos):Prop where
 base:attributeBase o m X.env (eval o X.env)=eval o X.env
 few:((backTo cpos (starEach [e,f] X.env)).all (fun x=>!x.1)&&(backToKw cpos (keywordEach [] X.env)).all (fun x=>x.1.isSome)
  && decide (([e,f]:List Expr).length+([]:List Keyword).length+(if ([]:List Keyword).isEmpty then 0 else 1)<30))=true
 line:(apos.endLine==cpos.line)=true
 trees:backTo cpos (starEach [e,f] X.env)=[(false,eval e X.env),(false,eval f X.env)]
noncomputable def IsD(H:Hp)(a:Addr):Prop:=(∃kvs,Rd H a (.dK kvs))\/∃kvs,Rd H a (.dT kvs)
theorem aER{X:Cx}{pins:List (Addr×Obj)}{a:Addr}(I:Inv X pins σ H s)(d:IsD H a):
 s.TypeIs (.ref a) "dict"/\(∀b,Value.ref a=.ref b->∃ob,s.heap.get? b=some ob/\ob.dict=none)/\(a==sysModules)=false:=by
 rcases d with⟨kvs,e⟩|⟨kvs,e⟩
 .obtain⟨_,hd,vs,_,dd⟩:=DE I.hok e;refine⟨dd.typeIs,fun b q=>?_,hd⟩;cases q;obtain⟨ob,_,_,h1,h2,_⟩:=dd;exact⟨ob,h1,h2.2.1⟩
 .obtain⟨_,hd,xs,_,dd⟩:=DH I.hok e;refine⟨dd.typeIs,fun b q=>?_,hd⟩;cases q;obtain⟨ob,_,_,h1,h2,_⟩:=dd;exact⟨ob,h1,h2.2.1⟩
section
variable{X:Cx}{pins:List (Addr×Obj)}{σ:St}{H:Hp}{s:Shared}{a:Addr}{y d:V}{u r:Value}{o:Option V}{A:Around}{E:Value->Shared->Prop}
theorem aFK{Q:Value->Shared->Prop}(hu:A.units+1<cLine)(I:Inv X pins σ H s)(g:uS H a y o)(ry:RelV y u)(rd:RelV d r)(h:∀w' s',Inv X pins σ H s'->RelV (o.getD d) w'->Q w' s'):
 wpAny (model X.prog X.w) A (call (.builtin "dict.get") [.ref a,u,r]) Q E s:=by
 rcases g with⟨kvs,k,e,ey,l⟩|⟨kvs,k,b,e,ey,eb,l⟩
 .subst ey;obtain⟨z,hd,vs,rel,dd⟩:=DE I.hok e;refine call_meetsIn PySem.F.slot_dict_get dd.typeIs PySem.F.entry_dict_get (PySem.F.args_dict_get_3 _ _ _) (meets_dict_get_default (cS X.prog X.w) a (yU ry) hd r) ⟨_,dd.mapOf,h _ _ (I.tok _) ?_⟩;rw[l];exact(rel.val k).getD rd
 .subst ey;cases (show u=Value.ref b from ry);obtain⟨z,hd,xs,rel,dd⟩:=DH I.hok e;refine call_meetsIn PySem.F.slot_dict_get dd.typeIs PySem.F.entry_dict_get (PySem.F.args_dict_get_3 _ _ _) (meetsH_dict_get_default (tupleKind (cS X.prog X.w)) a b hd r) ⟨A0c hu,k,xs,vS I.hok eb,dd,h _ _ (I.tok _) ?_⟩;rw[l];exact(rel.val k).getD rd
end
noncomputable def ZU(td ty tx:TE):TE:=fun σ H Q=>td σ H fun x H1=>∃a,x=.ref a/\IsD H1 a/\ty σ H1 fun y H2=>tx σ H2 fun z H3=>∃o,uS H3 a y o/\Q (o.getD z) H3
section
variable{X:Cx}{o e f:Expr}{apos cpos:Pos}{td ty tx:TE}
theorem UZ(hu:X.A.units+1<cLine)(ho:PE X o td)(he:PE X e ty)(hf:PE X f tx)(m:M2 X o "get" apos e f cpos):PE X (.Call (.Attribute o "get" apos) [e,f] [] cpos) (ZU td ty tx):=by
 intro pins s σ H Q I h;refine wpAny_Call_method m.base m.few m.line PySem.F.plainAttrs_dict PySem.F.slot_dict_get PySem.F.type_dict_get (thn (ho pins s σ H _ I h) fun u s1 ⟨x,H1,I1,rx,a,ex,d,q1⟩=>?_);subst ex;obtain rfl:u=Value.ref a:=rx;obtain⟨t1,t2,_⟩:=aER I1 d;refine⟨t1,t2,?_⟩;rw[m.trees]
 refine Calls.callWith_builtin rfl (Calls.evalArgs_plain (A0a (thn (he pins s1 σ H1 _ I1 q1) fun iv s2 ⟨y,H2,I2,ry,q2⟩=>
  A0a (thn (hf pins s2 σ H2 _ I2 q2) fun fv s3 ⟨z,H3,I3,rz,ov,g,q3⟩=>Calls.spliced_nil ?_))))
 exact aFK hu I3 g ry rz fun w' s4 I4 rw'=>⟨_,H3,I4,rw',q3⟩
end
end L2
namespace Att
open PySem PySem.W PySem.Calls PyProof.Rows
theorem xI{P:Params}{h:Heap}:∀(ns:List Int)(vs:List Value),WellAll P h vs (ns.map WData.int)->IntsAre vs ns:=by
 intro ns
 induction ns with
 |nil=>
  intro vs w;rw[List.map_nil]at w;cases w;exact .nil
 |cons n ns ih=>
  intro vs w;rw[C3]at w;cases w with
  |cons a b=>
   cases a;exact .cons _ _ (ih _ b)
theorem SQ{l:OpenLaw}{n:Nat}(hn:l.most=some n){P:Params}{h:Heap}{args:List WData}{vals:List Value}
 (hpre:l.row.toRowW.claim.pre args=true) (hwl:WellAll P h vals args):
 ∃a vs ns,vals=[Value.ref a]/\args=[WData.list (ns.map WData.int)]/\h.get? a=some { cls:=.type "list",data:=.seq vs.toArray }/\IntsAre vs ns/\ns.length<=n:=by
 have hsh:WShape.hasAll [] args [.list .int]=true:=(pre_splitW hpre).1;have hc:l.pre.holds [] { args:=args }=true:=(pre_splitW hpre).2;obtain⟨d,r,rfl,h1,h2⟩:=hasAllW_cons hsh;obtain rfl:=hasAllW_nil h2;obtain⟨xs,rfl,h3⟩:=hasW_list h1;obtain⟨ns,rfl⟩:=items_int h3
 have hlen:ns.length<=n:=by
  unfold OpenLaw.pre at hc
  have h4:(WTm.not (.lt (.lit (.int (n:Int))) (.len (.arg 0)))).holds [] { args:=[.list (ns.map .int)] }=true:=by
   have h4:=(holds_andW hc).1;rw[hn]at h4;exact h4
  have h5:=condW_of h4 (w_not (w_lt w_lit (w_len_list (w_arg rfl))));rw[A9]at h5;refine Nat.le_of_not_lt fun q=>?_;have q':(n:Int)<((ns.length:Nat):Int):=by omega
  first
   |(rw[C4 q']at h5;exact absurd h5 (by decide))
   |(simp at h5;omega)
 cases hwl with
 |cons w1 w2=>
  cases w2;cases w1 with
  |list ho hall=>exact⟨_,_,ns,rfl,rfl,ho,xI ns _ hall,hlen⟩
theorem RJ(l:OpenLaw)(args:List WData):l.row.toRowW.claim.post args (.bool true) args=true:=
 postW_of (r:=l.row.toRowW) (X:=(true==true))
  (show WShape.has [] (.bool true) .bool=true by first|rfl|decide|simp[WShape.has,WShape.arms,WShape.armsAll])
  (show(WTm.eq .res (.lit (.bool true))).value [] { args:=args,res:=some (.bool true),after:=args }=some (.bool (true==true))from w_eq_bool (w_res rfl) w_lit) rfl
theorem attach_call{l:OpenLaw}{n:Nat}{q:Program}{loose:List Str}{XP:(Str->Option Value)->Heap->Prop}{YP:World->Heap->Prop}{d:DefRec}
 (hn:l.most=some n) (hdf:d.params.defaults=[])
 (call:∀(w:World)(s₀ s₁:Shared)(mg mb:Str->Option Value)(fa:Addr)(o:Obj)(pm cd doc:Value)(a:Addr)(vs:List Value)(ns:List Int),
  Ground q loose [] XP w s₀ mg mb s₁.heap->YP w s₁.heap->
  s₁.heap.get? fa=some o->o.data=.func (docDef d.name d.params d.body d.scope pm cd doc)->s₁.heap.CodeRec cd d.name->mg d.name=some (.ref fa)->
  s₁.heap.get? a=some { cls:=.type "list",data:=.seq vs.toArray }->IntsAre vs ns->ns.length<=n->s₁.gens=#[]->
  codeAny (model l.prog w) callerA (.call (.ref fa) ⟨[.ref a],[]⟩) (fun r s'=>r=.ok (.ret (.bool true))/\OldK s₁.heap s'.heap/\s'.os=s₁.os/\AllBare s'.gens) s₁):
 WalkO q loose XP YP l.row.toRowW d [] (fun f vs=>PySem.call f vs):=by
 intro w s₀ s₁ mg mb G Y fa o pm cd doc dV kV ho hd hcd hD hmg hg args vals as hpre hlay hrd hwl hlo;obtain rfl:dV=.none:=Dflts.none hD hdf;obtain rfl:kV=.none:=Dflts.noKw hD;obtain⟨a,vs,ns,rfl,rfl,hobj,hints,hlen⟩:=SQ hn hpre hwl;refine enter_call (U1 (call w s₀ s₁ mg mb fa o pm cd doc a vs ns G Y ho (fd_plain hd) hcd hmg hobj hints hlen hg) fun r s' hq=>?_);obtain⟨rfl,h2,h3,h4⟩:=hq;exact⟨.inl ⟨.bool true,.bool true,[],rfl,fun _=>rfl,.bool true,RJ l _,fun _=>⟨List.Pairwise.nil,fun _ hm=>(nomatch hm)⟩⟩,h2,h3,h4⟩
section
variable{prog:Program}{w:World}{A:Around}{E:Value->Shared->Prop}{s:Shared}{K:Frag}
end
end Att
namespace L2
open PySem PySem.Spec PyProof.Rows
theorem EJ:∀{vs:List Value}{ns:List Int},IntsAre vs ns->bC (ns.map V.int) vs
 |_,_,.nil=>.nil
 |_,_,.cons n t h=>.cons ⟨t,rfl⟩ (EJ h)
noncomputable def aEs(H:Hp):Prop:=∀b,H b=none\/∃o xs,H b=some (.frz o (.lst xs))
theorem YW{P:Program}{w:World}{K:Fg}{mg mb:Str->Option Value}{CX:CXT}{k:Nat}{fa a:Addr}{fd:FuncData}{x:Str}{sp:Sp}{s₁:Shared}{vs:List Value}{ns:List Int}
 (KX:K.In s₁.heap) (hns:s₁.heap.Ns mainGlobals mg) (hb:s₁.heap.Ns builtinsNs mb) (hbb:∀x:Str,x≠"__name__"->mb x=bootBuiltins x) (hlim:s₁.heap.NoLimit) (hsm:∃mm,s₁.heap.Ns sysModules mm) (hg:s₁.gens=#[])
 (ha:s₁.heap.get? a=some { cls:=.type "list",data:=.seq vs.toArray }) (hi:IntsAre vs ns) (hl:ns.length<=sizeLine) (hr:bS k callerA)
 (F:∀base:Heap,K.In base->base.Ns mainGlobals mg->gP P w K mg base CX k fa fd [x] sp) (hbind:∀(s:Shared)(u:Value),BindsTo s fd ⟨[u],[]⟩ [(x,u)])
 (hsp:∀H:Hp,aEs H->SqL K H a (ns.map V.int)->sp [.ref a] H (fun v _=>v=.bl true) fun _ _ _=>False)
 (hCX:∀H e s',CX [] H s₁ (fun _ _ _=>False) e s'->False):
 codeAny (model P w) callerA (.call (.ref fa) ⟨[.ref a],[]⟩) (fun r s'=>r=.ok (.ret (.bool true))/\OldK s₁.heap s'.heap/\s'.os=s₁.os/\AllBare s'.gens) s₁:=by
 have rv:=EJ hi;have lenV:=hi.length
 have core:∀H:Hp,aEs H->SqL K H a (ns.map V.int)->HOk P w H s₁.heap->(∀b,H b≠none->b=a)->(H a≠none->K.lookup a=none)->
  codeAny (model P w) callerA (.call (.ref fa) ⟨[.ref a],[]⟩) (fun r s'=>r=.ok (.ret (.bool true))/\OldK s₁.heap s'.heap/\s'.os=s₁.os/\AllBare s'.gens) s₁:=by
  intro H hO hS hok hA hK;have base_of:∀{b:Addr}{o:Obj},s₁.heap.get? b=some o->H b=none->(FY s₁.heap H).get? b=some o:=fun e n=>ZM e n
  have noA:∀{b:Addr}{o:Obj}{es:Array DictEntry}{ep:Nat},s₁.heap.get? b=some o->o.data=.dict es ep->H b=none:=fun{b o es ep} e d=>by
   cases q:H b with
   |none=>rfl
   |some u=>
    have e':b=a:=hA b (by rw[q];simp);subst e';rw[ha]at e;cases e;have d':Data.seq vs.toArray _=Data.dict es ep:=d;cases d'
  have nsK:∀{b:Addr}{m:Str->Option Value},s₁.heap.Ns b m->(FY s₁.heap H).Ns b m:=fun{b m} ⟨o,es,ep,e,d,r⟩=>⟨o,es,ep,base_of e (noA e d),d,r⟩
  have hKb:K.In (FY s₁.heap H):=fun b o e=>base_of (KX b o e) (by
   cases q:H b with
   |none=>rfl
   |some u=>
    have e':b=a:=hA b (by rw[q];simp);subst e';rw[hK (by rw[q];simp)]at e;cases e)
  have hM:Mod K mg (FY s₁.heap H):=⟨hKb,nsK hns,⟨mb,nsK hb,hbb⟩,(let⟨mc,h1,h2⟩:=hlim;⟨mc,nsK h1,h2⟩),(let⟨mm,hmm⟩:=hsm;let⟨o,es,ep,h1,h2,_⟩:=nsK hmm;⟨o,es,ep,h1,h2⟩)⟩;have e0:LI P w K mg (FY s₁.heap H) callerA [] s₁ H:=⟨rfl,hM,fun b o e=>aCZ e,Nat.le_of_eq (SH _ _),trivial,fun b hb=>absurd (show b∈([]:List Addr)from hb) (by simp),hok,.of_eq hg⟩;refine U1 ((F _ hKb (nsK hns)).run callerA [] s₁ H ⟨[.ref a],[]⟩ [.ref a] [.ref a] _ _ hr e0 (hbind s₁ (.ref a)) (.cons rfl .nil) (hsp H hO hS)) fun r s' h=>?_;cases r with
  |error e=>exact(hCX H e s' h).elim
  |ok fl=>
   cases fl with
   |next=>exact False.elim h
   |brk=>exact False.elim h
   |cont=>exact False.elim h
   |ret u=>
    obtain⟨v,H',os,bare,un,hok',r',q⟩:=h;have q':v=.bl true:=q;subst q';obtain rfl:u=Value.bool true:=r';refine⟨rfl,OldK.of_keep fun b o e=>?_,os,bare⟩;cases q:H b with
    |none=>exact un.keep b o e q (by intro z;exact absurd (show b∈([]:List Addr)from z) (by simp)) (by simp)
    |some u=>
     rcases hO b with z|⟨ob,xs,z⟩
     .rw[q]at z;cases z
     .have z2:=un.frzs b ob _ z;obtain⟨e1,_⟩:=hok b _ z;obtain⟨e2,_⟩:=hok' b _ z2;rw[e]at e1;cases e1;exact e2
 cases hk:K.lookup a with
 |some o=>
  have e:=KX a o hk;rw[ha]at e;cases e;refine core (fun _=>none) (fun _=>.inl rfl) (.inr ⟨_,vs.toArray,_,hk,rfl,rfl,rfl,by rw[C5,lenV];exact hl,by simpa using rv⟩) (fun b u z=>by have z':(none:Option HO)=some u:=z;cases z') (fun b z=>absurd rfl z) fun z=>absurd rfl z
 |none=>
  refine core (fun b=>if b=a then some (.frz { cls:=.type "list",data:=.seq vs.toArray } (.lst (ns.map V.int)))else none) (fun b=>?_) (.inl (.inr ⟨{ cls:=.type "list",data:=.seq vs.toArray },A4 rfl⟩)) (fun b u z=>?_) (fun b z=>?_) fun _=>hk
  .by_cases hb:b=a
   .exact .inr ⟨_,_,A4 hb⟩
   .exact .inl (A5 hb)
  .by_cases hb:b=a
   .have z':=(A4 hb).symm.trans z;cases z';subst hb;exact⟨ha,by rw[A9];exact hl,vs,_,rv,ha⟩
   .have z':=(A5 hb).symm.trans z;cases z'
  .by_cases hb:b=a
   .exact hb
   .exact absurd (A5 hb) z
noncomputable abbrev KOf{K:Fg}{h:Heap}(_:K.In h):Fg:=K
theorem walk_of{l:PySem.W.OpenLaw}{n k:Nat}{q:Program}(hq:PyProof.Rows.importsNone q=true){loose:List Str}{XP:(Str->Option Value)->Heap->Prop}{YP:World->Heap->Prop}{d:DefRec}{K:Params->Fg}{CX:World->CXT}{sp:World->Sp}{x:Str}
 (hn:l.most=some n) (hn2:n<=sizeLine) (hdf:d.params.defaults=[]) (hr:bS k callerA)
 (hY:∀(w:World)(h:Heap),YP w h->(K w.params).In h)
 (F:∀(w:World)(mg:Str->Option Value)(fa:Addr)(h:Heap),(K w.params).In h->h.Ns mainGlobals mg->mg d.name=some (.ref fa)->
  ∃fd:FuncData,(∀(s:Shared)(u:Value),BindsTo s fd ⟨[u],[]⟩ [(x,u)]) /\
   ∀base:Heap,(K w.params).In base->base.Ns mainGlobals mg->gP l.prog w (K w.params) mg base (CX w) k fa fd [x] (sp w))
 (hsp:∀(w:World)(H:Hp)(a:Addr)(ns:List Int),ns.length<=n->aEs H->SqL (K w.params) H a (ns.map V.int)->sp w [.ref a] H (fun v _=>v=.bl true) fun _ _ _=>False)
 (hCX:∀(w:World)(H:Hp)(s:Shared)(e:Value)(s':Shared),CX w [] H s (fun _ _ _=>False) e s'->False):
 PySem.W.WalkO q loose XP YP l.row.toRowW d [] (fun f vs=>PySem.call f vs):=by
 refine Att.attach_call hn hdf fun w s₀ s₁ mg mb fa o pm cd doc a vs ns G Y ho hd hcd hmg hobj hints hlen hg=>?_;have KX:=hY w _ Y;obtain⟨fd,hb,hF⟩:=F w mg fa _ KX G.T.g hmg;exact YW KX G.T.g G.T.b G.T.builtins G.T.nolimit (let⟨mm,hmm,_⟩:=(G.T.seer hq).mods;⟨mm,hmm⟩) hg hobj hints (D3 hlen hn2) hr hF hb (fun H hO hS=>hsp w H a ns hlen hO hS) fun H e s'=>hCX w H s₁ e s'
end L2
namespace L2
variable{H H':Hp}{W:Wd}{M M':Sto}{γ:Ga}{K:Fg}
open PySem PySem.Spec PyProof.Rows
noncomputable def inClass(s:Stmt)(j:Nat):Stmt:=match s with
 |.ClassDef _ _ _ body _ _ _ _ _ _ _=>body.getD j (.Pass ⟨0,0,0,0⟩)
 |_=>.Pass ⟨0,0,0,0⟩
noncomputable def cR(s:Stmt):Arguments:=match s with
 |.FunctionDef _ a _ _ _ _ _ _ _ _=>a
 |_=>{ posonlyargs:=[],args:=[],vararg:=none,kwonlyargs:=[],kw_defaults:=[],kwarg:=none,defaults:=[] }
noncomputable def bF(s:Stmt):List Stmt:=match s with
 |.FunctionDef _ _ b _ _ _ _ _ _ _=>b
 |_=>[]
noncomputable def aH(s:Stmt):Scope:=match s with
 |.FunctionDef _ _ _ _ _ _ sc _ _ _=>sc
 |_=>{ kind:=.function,names:=[],isGenerator:=false,isCoroutine:=false }
noncomputable abbrev CX0:CXT:=fun _ _ _ _ _ _=>False
noncomputable abbrev E0:XK:=fun _ _ _=>False
theorem aDO{X:Cx}:FU CX0 X E0:=fun _ _ _ _ _ _ _ h=>h.elim
structure Fun(K:Fg)(x qual:Str)(st:Stmt)(f:Addr)(fd:FuncData):Prop where
 ex:∃(oc:Value)(od:Option Addr)(kV doc pm:Value)(an:Option Addr)(cdv ct:Value)(osl:Array (Option Value)),
  fd=PySem.W.fnOf x qual (cR st) (bF st) (aH st) .none kV doc pm an cdv ct/\K.lookup f=some ⟨oc,od,.func fd,osl⟩/\PySem.W.codeIn K cdv qual=true
 kp:PySem.W.keepIn K (.ref f)=true
section
variable{P:Program}{w:World}{K:Fg}{mg:Str->Option Value}{base:Heap}
theorem Fun.ok{x qual:Str}{st:Stmt}{f:Addr}{fd:FuncData}{N ps:List Str}{k:Nat}{sp:Sp}{q:Bool}(F:Fun K x qual st f fd)(S:aS N ps (aH st))(len:∀vs H Q E,sp vs H Q E->vs.length=ps.length)
 (hbody:∀(cdv:Value)(A:Around)(outer:List Env)(s:Shared)(H:Hp)(vs:List V)(Q:VK)(E:XK),bS k (A.deeper (envOfC qual (aH st) s.heap.objs.size f cdv)) q->sp vs H Q E->
  ∃t,PSs (kR CX0 P w K mg base N qual (aH st) f cdv A outer s H E q).nox (bF st) t/\t { nx:=fun _ H'=>Q .non H',rt:=Q } (start N vs) H):gP P w K mg base CX0 (k+1) f fd ps sp q:=by
 obtain⟨oc,od,kV,doc,pm,an,cdv,ct,osl,rfl,lk,hcd⟩:=F.ex;refine aDn lk hcd S len fun A outer s H vs Q E hr hsp=>?_;obtain⟨t,h,z⟩:=hbody cdv A outer s H vs Q E hr hsp;exact⟨t,h.nox,z⟩
theorem Fun.binds{x qual:Str}{st:Stmt}{f:Addr}{fd:FuncData}{ps:List Str}(F:Fun K x qual st f fd)
 (h:∀(kV doc pm:Value)(an:Option Addr)(cdv ct:Value)(us:List Value),us.length=ps.length->bindArgs (PySem.W.fnOf x qual (cR st) (bF st) (aH st) .none kV doc pm an cdv ct) ⟨us,[]⟩=pure (ps.zip us)):Binds K fd ps []:=by
 obtain⟨oc,od,kV,doc,pm,an,cdv,ct,osl,rfl,lk,hcd⟩:=F.ex;exact .all (h kV doc pm an cdv ct)
theorem aAa{x qual:Str}{st:Stmt}{f:Addr}{oc:Value}{od an:Option Addr}{osl:Array (Option Value)}{kV doc pm cdv ct:Value}(l:K.lookup f=some ⟨oc,od,.func (PySem.W.fnOf x qual (cR st) (bF st) (aH st) .none kV doc pm an cdv ct),osl⟩)
 (c:PySem.W.codeIn K cdv qual=true) (k:PySem.W.keepIn K (.ref f)=true):Fun K x qual st f (PySem.W.fnOf x qual (cR st) (bF st) (aH st) .none kV doc pm an cdv ct):=⟨⟨oc,od,kV,doc,pm,an,cdv,ct,osl,rfl,l,c⟩,k⟩
end
noncomputable def iD(H H':Hp):Prop:=∀b o,H b=some o->H' b=some o
theorem iD.refl(H:Hp):iD H H:=fun _ _ h=>h
theorem iD.trans{H1 H2:Hp}(a:iD H H1)(b:iD H1 H2):iD H H2:=fun c o h=>b c o (a c o h)
theorem iD.free(e:iD H H'){l:Addr}(h:H' l=Option.none):H l=Option.none:=by
 cases q:H l with
 |none=>rfl
 |some o=>
  rw[e l o q]at h;cases h
theorem iD.seq{a:Addr}{xs:List V}(e:iD H H')(h:SqL K H a xs):SqL K H' a xs:=by
 rcases h with(h|⟨o,h⟩)|h
 .exact .inl (.inl (e _ _ h))
 .exact .inl (.inr ⟨o,e _ _ h⟩)
 .exact .inr h
noncomputable def eM(env:Env):List (Str×NameKind)->List (Str×Addr)->List (Str×Addr)
 |[],cs=>cs
 |y::r,cs=>eM env r (if (y.2==NameKind.free)=true then(y.1,(env.cells.lookup y.1).getD 0)::cs else cs)
theorem sQ{env:Env}:∀(l:List (Str×NameKind))(cs:List (Str×Addr)),(∀y∈l,y.2=.free->∃c,env.cells.lookup y.1=some c)->
 (forIn l cs fun(x:Str×NameKind)(r:List (Str×Addr))=>if (x.2==NameKind.free)=true then(do
  let a <- cellOf env x.1
  pure (ForInStep.yield ((x.1,a)::r)))else pure (ForInStep.yield r))=(pure (eM env l cs):Sem (List (Str×Addr)))
 |[]=>fun cs _=>rfl
 |y::l=>fun cs h=>by
  rw[List.forIn_cons];by_cases hk:(y.2==NameKind.free)=true
  .obtain⟨c,hc⟩:=h y B5 (by simpa using hk);have e1:cellOf env y.1=pure c:=by unfold cellOf;rw[hc]
   rw[A4 hk,e1];show(forIn l ((y.1,c)::cs) _:Sem _)=_;rw[sQ l _ fun z hz=>h z (B4 _ hz)]
   conv=>rhs;unfold eM
   rw[A4 hk,hc];rfl
  .rw[A5 hk];show(forIn l cs _:Sem _)=_;rw[sQ l _ fun z hz=>h z (B4 _ hz)]
   conv=>rhs;unfold eM
   rw[A5 hk]
theorem AA{scope:Scope}{env:Env}(h:∀y∈scope.names,y.2=.free->∃c,env.cells.lookup y.1=some c):closureFor scope env=pure (eM env scope.names []):=by
 have e:=sQ (env:=env) scope.names [] h;unfold closureFor
 show((forIn scope.names ([]:List (Str×Addr)) fun(x:Str×NameKind)(r:List (Str×Addr))=>if (x.2==NameKind.free)=true then(do
  let a <- cellOf env x.1
  pure (ForInStep.yield ((x.1,a)::r)))else pure (ForInStep.yield r)) >>= fun z=>pure z:Sem (List (Str×Addr)))=_
 rw[e];rfl
theorem EB{env:Env}:∀(l:List (Str×NameKind))(cs:List (Str×Addr)),(∀y∈l,y.2=.free->∃c,env.cells.lookup y.1=some c)->(∀x c,cs.lookup x=some c->env.cells.lookup x=some c)->
 ∀x c,(eM env l cs).lookup x=some c->env.cells.lookup x=some c
 |[]=>fun cs _ h x c e=>h x c e
 |y::l=>fun cs hf h x c e=>by
  unfold eM at e;refine EB l _ (fun z hz=>hf z (B4 _ hz)) ?_ x c e;intro z d ez;by_cases hk:(y.2==NameKind.free)=true
  .rw[A4 hk]at ez;obtain⟨c',hc'⟩:=hf y B5 (by simpa using hk);rw[hc']at ez;rw[C8]at ez;by_cases hz:(z==y.1)=true
   .rw[hz]at ez;have hz':z=y.1:=by simpa using hz
    rw[hz',hc'];exact ez
   .have hz':(z==y.1)=false:=by simpa using hz
    rw[hz']at ez;exact h z d ez
  .rw[A5 hk]at ez;exact h z d ez
theorem wA{env:Env}:∀(l:List (Str×NameKind))(cs:List (Str×Addr))(x:Str),((x,NameKind.free)∈l\/∃c,cs.lookup x=some c)->∃c,(eM env l cs).lookup x=some c
 |[]=>fun cs x h=>by
  rcases h with h|h
  .exact absurd h (by simp)
  .exact h
 |y::l=>fun cs x h=>by
  unfold eM;refine wA l _ x ?_;rcases h with h|⟨c,hc⟩
  .rcases List.mem_cons.mp h with e|e
   .subst e;refine .inr ?_;rw[A4 (by rfl)];exact⟨(env.cells.lookup x).getD 0,by rw[C8];simp⟩
   .exact .inl e
  .refine .inr ?_;by_cases hk:(y.2==NameKind.free)=true
   .rw[A4 hk,C8];by_cases hz:(x==y.1)=true
    .rw[hz];exact⟨_,rfl⟩
    .have hz':(x==y.1)=false:=by simpa using hz
     rw[hz'];exact⟨c,hc⟩
   .rw[A5 hk];exact⟨c,hc⟩
theorem sP{env:Env}:∀{names:List (Str×NameKind)}{x:Str}{k:NameKind},
 (names.map fun(y:Str×NameKind)=>if (y.2==NameKind.free&&env.scope.kind==.function&&env.kindOf y.1==some .cell)=true then(y.1,NameKind.cell)else(y.1,y.2)).lookup x=some k->
 (names.lookup x=some k)\/(names.lookup x=some .free/\k=.cell)
 |[],x,k=>fun h=>by simp at h
 |y::r,x,k=>fun h=>by
  rw[C3]at h;by_cases hx:(x==y.1)=true
  .by_cases hc:(y.2==NameKind.free&&env.scope.kind==.function&&env.kindOf y.1==some .cell)=true
   .rw[A4 hc,C8,hx]at h;rw[C8,hx];have:y.2=.free:=by simp at hc;exact hc.1.1
    refine .inr ⟨by rw[this],?_⟩;cases h;rfl
   .rw[A5 hc,C8,hx]at h;rw[C8,hx];exact .inl h
  .have hx':(x==y.1)=false:=by simpa using hx
   have h':(r.map fun(y:Str×NameKind)=>if (y.2==NameKind.free&&env.scope.kind==.function&&env.kindOf y.1==some .cell)=true then(y.1,NameKind.cell)else(y.1,y.2)).lookup x=some k:=by
    by_cases hc:(y.2==NameKind.free&&env.scope.kind==.function&&env.kindOf y.1==some .cell)=true
    .rw[A4 hc,C8,hx']at h;exact h
    .rw[A5 hc,C8,hx']at h;exact h
   rw[C8,hx'];exact sP h'
theorem zY{env:Env}:∀{names:List (Str×NameKind)}{x:Str},names.lookup x=some .free->
 (names.map fun(y:Str×NameKind)=>if (y.2==NameKind.free&&env.scope.kind==.function&&env.kindOf y.1==some .cell)=true then(y.1,NameKind.cell)else(y.1,y.2)).lookup x=some .cell \/
 (names.map fun(y:Str×NameKind)=>if (y.2==NameKind.free&&env.scope.kind==.function&&env.kindOf y.1==some .cell)=true then(y.1,NameKind.cell)else(y.1,y.2)).lookup x=some .free
 |[],x=>fun h=>by simp at h
 |y::r,x=>fun h=>by
  rw[C3];by_cases hx:(x==y.1)=true
  .rw[C8,hx]at h;have hy:y.2=.free:=D2 h;by_cases hc:(y.2==NameKind.free&&env.scope.kind==.function&&env.kindOf y.1==some .cell)=true
   .rw[A4 hc,C8,hx];exact .inl rfl
   .rw[A5 hc,C8,hx];exact .inr (by rw[hy])
  .have hx':(x==y.1)=false:=by simpa using hx
   rw[C8,hx']at h;have ih:=zY (env:=env) h;by_cases hc:(y.2==NameKind.free&&env.scope.kind==.function&&env.kindOf y.1==some .cell)=true
   .rw[A4 hc,C8,hx'];exact ih
   .rw[A5 hc,C8,hx'];exact ih
noncomputable def IZ(X:Cx)(ifs:List Expr)(t:TT):Prop:=
 ∀(pins:List (Addr×Obj))(s:Shared)(σ:St)(H:Hp)(Q:Bool->Hp->Prop),Inv X pins σ H s->t σ H Q->
  wpAny (model X.prog X.w) X.A (forIn ifs true fun c r=>if r=true then(do
   let ok <- isTrue c X.env (eval c X.env)
   pure (ForInStep.yield ok))else pure (ForInStep.yield r)) (TP X pins σ Q) X.xe s
noncomputable def aIz:TT:=fun _ H Q=>Q true H
theorem WG{X:Cx}:IZ X [] aIz:=fun _ _ _ H _ I h=>wpAny_tests_nil ⟨H,I,h⟩
theorem ZQ{X:Cx}{c:Expr}{t:TT}(h:PT X c t):IZ X [c] t:=fun pins s σ H Q I hq=>wpAny_tests_one (h pins s σ H Q I hq)
section
variable{prog:Program}{w:World}{A:Around}{R:Result->Shared->Prop}{s:Shared}
theorem aBA{elt target iter:Expr}{ifs:List Expr}{scope:Scope}{pos:Pos}{it acc:Value}{env:Env}(I:Nat->Shared->Prop)
 (turn:∀n s,I n s->wpAny (model prog w) A (pyNext it) (fun r s1=>(r=none/\R (.ok .next) s1)\/∃v,r=some v /\
  wpAny (model prog w) A (letOwnedTupleGo target it v) (fun _ s2=>wpAny (model prog w) A (assign target env v) (fun _ s3=>
   wpAny (model prog w) A (forIn ifs true fun c r=>if r=true then(do
    let ok <- isTrue c env (eval c env)
    pure (ForInStep.yield ok))else pure (ForInStep.yield r)) (fun ok s4=>
     (ok=true/\wpAny (model prog w) A (eval elt env) (fun x s5=>wpAny (model prog w) A (call (.builtin "list.append") [acc,x]) (fun _ s6=>∃m,m<n/\I m s6) (fun _ _=>False) s5) (fun _ _=>False) s4) \/
     (ok=false/\∃m,m<n/\I m s4)) (fun _ _=>False) s3) (fun _ _=>False) s2) (fun _ _=>False) s1) (fun _ _=>False) s)
 (n:Nat) (h:I n s):codeAny (model prog w) A (.compLoop (.ListComp elt [⟨target,iter,ifs,0⟩] scope pos) 0 it acc env) R s:=by
 refine codeAny_loop rfl I (fun n s hI=>?_) n h
 show wpAny _ A ((compTurn (.ListComp elt [⟨target,iter,ifs,0⟩] scope pos) 0 it acc env).onRaise fun x=>do
  noteFrame x env
  theTreesLotGoes x) _ _ s
 refine wpAny_noted ?_;rw[compTurn_list];refine A0 (S0 (A0 (D0 (turn n s hI) (fun r s1 h1=>?_) fun _ _ f=>f.elim)));rcases h1 with⟨rfl,h1⟩|⟨v,rfl,h1⟩
 .exact A3 h1
 .refine A0 (D0 h1 (fun _ s2 h2=>?_) fun _ _ f=>f.elim);refine A0 (D0 h2 (fun _ s3 h3=>?_) fun _ _ f=>f.elim);refine A0 (D0 h3 (fun ok s4 h4=>?_) fun _ _ f=>f.elim);rcases h4 with⟨rfl,h4⟩|⟨rfl,h4⟩
  .refine A0 (A0 (D0 h4 (fun x s5 h5=>?_) fun _ _ f=>f.elim));exact A0 (D0 h5 (fun _ s6 h6=>A3 (A3 ⟨rfl,h6⟩)) fun _ _ f=>f.elim)
  .exact A3 ⟨rfl,h4⟩
end
noncomputable def eQ(X:Cx)(N':List Str)(scope:Scope)(C:Addr)(s2:Shared)(H2:Hp)(fp:List Addr)(pn:List (Addr×Obj)):Cx:=
 { X with N:=N',s₀:=s2,H₀:=H2,env:=compEnvC scope (eM X.env scope.names []) C X.env,outer:=X.stack,stack:=X.stack,ex:=fp,fn:=fun _=>false,pn:=X.pn++pn,xe:=fun _ _=>False }
noncomputable def xO(cap:List (Option Nat))(σ:St):St:=cap.map fun o=>o.bind fun j=>(σ[j]?).join
structure oO(X:Cx)(N':List Str)(cap:List (Option Nat))(scope:Scope):Prop where
 nocell:∀y∈scope.names,y.2≠.cell
 kind:scope.kind=.function
 names:∀y∈scope.names,y.2=.local->scope.names.lookup y.1=some .local
 frees:∀y∈scope.names,y.2=.free->X.env.kindOf y.1=some .cell\/X.env.kindOf y.1=some .free
 len:cap.length=N'.length
 cap:∀(i j:Nat),cap[i]?=some (some j)->∃x,N'[i]?=some x/\X.N[j]?=some x/\scope.names.lookup x=some .free
section
variable{X:Cx}{N':List Str}{cap:List (Option Nat)}{scope:Scope}{pins:List (Addr×Obj)}{σ:St}{H:Hp}{s:Shared}
theorem oO.cells(S:oO X N' cap scope)(ok:X.Ok):∀y∈scope.names,y.2=.free->∃c,X.env.cells.lookup y.1=some c:=fun y hy hk=>ok.has y.1 (S.frees y hy hk)
theorem oO.sub(S:oO X N' cap scope)(ok:X.Ok):∀x c,(eM X.env scope.names []).lookup x=some c->X.env.cells.lookup x=some c:=
 EB scope.names [] (S.cells ok) fun x c e=>by simp at e
theorem oO.kinds(S:oO X N' cap scope){C:Addr}{cl:List (Str×Addr)}{x:Str}(h:(compEnvC scope cl C X.env).kindOf x=some .cell\/(compEnvC scope cl C X.env).kindOf x=some .free):scope.names.lookup x=some .free:=by
 rcases h with h|h
 .rcases sP (names:=scope.names) h with q|⟨q,_⟩
  .exact absurd rfl (S.nocell _ (E4 q))
  .exact q
 .rcases sP (names:=scope.names) h with q|⟨q,_⟩
  .exact q
  .exact q
theorem Inv.stkAll(I:Inv X pins σ H s){b:Addr}(h1:b≠X.env.locals)(h2:b∉X.fs):b∉frs X.stack:=fun hb=>(List.mem_cons.mp (I.stkSub b hb)).elim h1 h2
theorem HL(S:oO X N' cap scope)(I:Inv X pins σ H s){fp:List Addr}{h4:Heap}{C:Addr}{tk:Nat}(hf:∀b∈fp,mT X pins H b)(hlt:∀b∈fp,b<s.heap.objs.size)
 (hC:s.heap.objs.size<=C) (hn:h4.Ns C fun _=>none) (hk:∀b o,s.heap.get? b=some o->h4.get? b=some o):
 Inv (eQ X N' scope C s H fp pins) [] (xO cap σ) H { s with heap:=h4,toks:=tk }:=by
 have cellLt:∀x c,X.env.cells.lookup x=some c->c<s.heap.objs.size:=fun x c e=>by
  obtain⟨v,q⟩:=I.cell x c e;exact q.lt
 have fresh:H C=none:=I.hok.fresh hC
 have ok:(eQ X N' scope C s H fp pins).Ok:=by
  refine⟨I.ok.mod,S.kind,I.ok.glob,I.ok.blt,hC,fun x y c h1 h2=>?_,fun x hx=>?_,fun x c hx _=>?_,I.ok.hd,I.ok.frames,.inl rfl,fun b hb=>⟨?_,fun x c e=>?_⟩,I.bs,D3 I.ok.bsz I.sz,fun b o e hb=>?_,fun b hb=>?_,I.stack,I.stkFree⟩
  .exact I.ok.inj x y c (S.sub I.ok x c h1) (S.sub I.ok y c h2)
  .exact wA scope.names [] x (.inl (E4 (S.kinds hx)))
  .exact absurd hx (by show ¬(false=true);decide)
  .exact B6 (B7 (hlt b hb) hC)
  .exact(hf b hb).2.2.2.2.1 x c (S.sub I.ok x c e)
  .rcases (hf b hb).2.2.2.1 with z|z
   .exact I.ok.noex b o e z
   .exact absurd (B7 (A8 (I.ok.bs b o e).1) z) (F8 _)
  .exact I.stkAll (hf b hb).2.1 (hf b hb).2.2.1
 refine⟨ok,rfl,I.bare,Un.kept hk,⟨_,hn,fun i x v h1 h2 h3=>?_⟩,fun x c e=>?_,fresh,fun x c e=>I.freeC x c (S.sub I.ok x c e),fun p hp=>?_,I.hok.kept hk,?_⟩
 .-- a name that is caught
  have h2':(cap[i]?).map (fun o=>o.bind fun j=>(σ[j]?).join)=some (some v):=by
   have:(xO cap σ)[i]?=some (some v):=h2;unfold xO at this;rw[D6]at this;exact this
  cases e:cap[i]? with
  |none=>rw[e]at h2';simp at h2'
  |some o=>
   cases o with
   |none=>rw[e]at h2';simp at h2'
   |some j=>
    rw[e]at h2';obtain⟨x',a1,a2,a3⟩:=S.cap i j e
    have ex:x'=x:=by
     have:N'[i]?=some x:=h1;rw[a1]at this;exact D2 this
    subst ex
    have sv:σ[j]?=some (some v):=by
     have q:(σ[j]?).join=some v:=D2 h2';cases f:σ[j]? with
     |none=>rw[f]at q;simp at q
     |some o=>rw[f]at q;cases o with
      |none=>simp at q
      |some v'=>simp at q;rw[q]
    have hv:X.env.kindOf x'=some .cell\/X.env.kindOf x'=some .free:=S.frees _ (E4 a3) rfl;obtain⟨m,hm,hl⟩:=I.loc;obtain⟨u,r,l⟩:=hl j x' v a2 sv (hv.elim (fun z=>.inr (.inl z)) fun z=>.inr (.inr z));refine⟨u,r,.inr ⟨?_,?_⟩⟩
    .exact zY (env:=X.env) (names:=scope.names) a3
    .rcases l with⟨hk',_⟩|⟨_,c,hc,o,ho,hd⟩
     .rcases hv with z|z<;>rw[z]at hk'<;>cases hk'
     .obtain⟨c',hc'⟩:=wA (env:=X.env) scope.names [] x' (.inl (E4 a3));have:=S.sub I.ok x' c' hc';rw[hc]at this;cases this;exact⟨c,hc',o,hk c o ho,hd⟩
 .obtain⟨v,o,ho,hd⟩:=I.cell x c (S.sub I.ok x c e);exact⟨v,o,hk c o ho,hd⟩
 .have hp':p∈X.pn++pins:=by
   rcases List.mem_append.mp hp with z|z
   .exact z
   .exact absurd z (by simp)
  obtain⟨e,n,ne,nf,d⟩:=I.pin p hp';exact⟨hk _ _ e,n,B6 (B7 (A8 e) hC),I.stkAll ne nf,d⟩
 .show(xO cap σ).length=N'.length;unfold xO;rw[A9];exact S.len
end
noncomputable def tLc(cap:List (Option Nat))(wi:TI)(g:TG)(tc:TT)(te:TE):TE:=fun σ H Q=>wi σ H fun J H1=>∃W:Nat->Nat->List V->St->Hp->Prop,(∃m,W 0 m [] (xO cap σ) H1)/\∀i m acc σ' H',W i m acc σ' H'->
 (J.stop i H'/\∀p,H' p=none->Q (.ref p) (upd H' p (.lst acc))) \/
 (J.go i H'/\acc.length<sizeLine/\∃N:List V->St->Hp->Prop,(∀acc' σ2 H2,N acc' σ2 H2->∃m',m'<m/\W (i+1) m' acc' σ2 H2)/\∀x H2,J.yld i H' x H2->g x σ' H2 fun σ2 H3=>tc σ2 H3 fun b H4=>(b=true/\te σ2 H4 fun v H5=>N (acc++[v]) σ2 H5)\/(b=false/\N acc σ2 H4))
section
variable{X:Cx}{N':List Str}{cap:List (Option Nat)}{scope:Scope}
theorem XQ{elt tg iter:Expr}{ifs:List Expr}{pos:Pos}{wi:TI}{g:TG}{tc:TT}{te:TE}(hc:X.calm=true)(S:oO X N' cap scope)(hi:PI X tg iter wi)
 (hg:∀C s H fp pn,PG (eQ X N' scope C s H fp pn) tg g) (hif:∀C s H fp pn,IZ (eQ X N' scope C s H fp pn) ifs tc) (he:∀C s H fp pn,PE (eQ X N' scope C s H fp pn) elt te)
 (hs:∀x,foldedSetIterable iter X.env x=pure x) {pins:List (Addr×Obj)} {s:Shared} {σ:St} {H:Hp} {Q:VK} (I:Inv X pins σ H s) (h:tLc cap wi g tc te σ H Q)
 {use:Option (Value->Sem Unit)} {QQ:Value->Shared->Prop}
 (post:∀(D C:Addr)(H':Hp)(acc:List V)(s':Shared),D≠C->(∃m,s'.heap.Ns C m)->(∀h',Heap.SameBut C s'.heap h'->Inv X pins σ (upd H' D (.lst acc)) { s' with heap:=h' })->mT X pins (upd H' D (.lst acc)) C->Q (.ref D) (upd H' D (.lst acc))->compPost (model X.prog X.w) X.A X.xe use QQ (.ref D) C (.ok .next) s'):
 wpAny (model X.prog X.w) X.A (comprehension (.ListComp elt [⟨tg,iter,ifs,0⟩] scope pos) scope X.env (firstIterPos [⟨tg,iter,ifs,0⟩] pos) (newList []) false (firstIter [⟨tg,iter,ifs,0⟩] X.env) use) QQ X.xe s:=by
 refine wpAny_comprehension_free (e:=.ListComp elt [⟨tg,iter,ifs,0⟩] scope pos) (g:=⟨tg,iter,ifs,0⟩) (gs:=[]) rfl hs (AA (S.cells I.ok)) S.kind S.names ?_;refine thn (hi pins s σ H _ I h) fun v s1 h1=>thn h1 fun itv s2 h2=>?_;obtain⟨it,fp,tn,J,H2,e,I2,T,st2,f2,W,⟨m0,w0⟩,turn⟩:=h2;subst e
 have fplt:∀b∈fp,b<s2.heap.objs.size:=fun b hb=>by
  obtain⟨o,e,_⟩:=T.obj _ _ st2 b hb;exact A8 e
 refine C9 (wpAny_newFunctionEnv S.nocell (fun y hy=>by simp at hy) (fun h1' hns hsb=>?_) S.kind);dsimp only at hns hsb ⊢;generalize hP:s2.heap.push { cls:=.type "list",dict:=none,data:=.seq ([]:List Value).toArray }=P2 at hns hsb ⊢;have hsz:P2.objs.size=s2.heap.objs.size+1:=by rw[<- hP,O2]
 have hDC:s2.heap.objs.size≠P2.objs.size:=by rw[hsz];exact B6 (F5 _)
 have hC:s2.heap.objs.size<=P2.objs.size:=by rw[hsz];exact Nat.le_succ _
 have keepP:∀b o,P2.get? b=some o->b≠P2.objs.size->h1'.get? b=some o:=fun b o e hb=>hsb.extBut b o hb (A2 _ e);have old:∀b o,s2.heap.get? b=some o->h1'.get? b=some o:=fun b o e=>keepP b o (by rw[<- hP];exact A2 _ e) (B6 (B7 (A8 e) hC));have hD0:h1'.get? s2.heap.objs.size=some { cls:=.type "list",data:=.seq #[] 0 }:=keepP _ _ (by rw[<- hP];exact B0 _ rfl) hDC
 have I4:Inv (eQ X N' scope P2.objs.size s2 H2 fp pins) [] (xO cap σ) H2 { s2 with heap:=h1',toks:=s2.toks+([]:List (Str×Value)).length }:=
  HL S I2 f2 fplt hC (by simpa using hns) old
 have loop:∀s4:Shared,s4={ s2 with heap:=h1',toks:=s2.toks+([]:List (Str×Value)).length }->
  codeAny (model X.prog X.w) X.A (.compLoop (.ListComp elt [⟨tg,iter,ifs,0⟩] scope pos) 0 (.ref it) (.ref s2.heap.objs.size) (compEnvC scope (eM X.env scope.names []) P2.objs.size X.env)) (compPost (model X.prog X.w) X.A X.xe use QQ (.ref s2.heap.objs.size) P2.objs.size) s4:=by
  rintro s4 rfl
  have hfrD:s2.heap.objs.size∉frs X.stack:=fun hb=>by
   obtain⟨_,o,ho,_⟩:=I2.stack.mem hb;exact absurd (A8 ho) (F8 _)
  have cne:∀x c,(eM X.env scope.names []).lookup x=some c->c<s2.heap.objs.size:=fun x c e=>by
   obtain⟨v,q⟩:=I2.cell x c (S.sub I2.ok x c e);exact q.lt
  have stat:∀{Hx:Hp}{ob:Obj},(∀b∈fp,Hx b=none)->∀b∈fp,mT (eQ X N' scope P2.objs.size s2 H2 fp pins) [(s2.heap.objs.size,ob)] Hx b:=fun{Hx ob} hn b hb=>by
   refine⟨hn b hb,B6 (B7 (fplt b hb) hC),I2.stkAll (f2 b hb).2.1 (f2 b hb).2.2.1,.inl hb,fun x c e=>(f2 b hb).2.2.2.2.1 x c (S.sub I2.ok x c e),fun p hp=>?_⟩;rcases List.mem_append.mp hp with z|z
   .exact(f2 b hb).2.2.2.2.2 p z
   .rw[List.mem_singleton.mp z];exact F9 (fplt b hb)
  refine aBA (fun n s'=>∃(i:Nat)(σ':St)(H':Hp)(acc:List V)(its:List Value)(nn:Nat),Inv (eQ X N' scope P2.objs.size s2 H2 fp pins) [] σ' H' s'/\tn i s'.heap/\(∀b∈fp,H' b=none)/\H' s2.heap.objs.size=none /\
   s'.heap.get? s2.heap.objs.size=some { cls:=.type "list",data:=.seq its.toArray nn }/\bC acc its/\acc.length<=sizeLine/\W i n acc σ' H') ?_ m0
   ⟨0,xO cap σ,H2,[],[],0,I4,T.keep _ _ _ st2 fun b _ o e=>old b o e,fun b hb=>(f2 b hb).1,I2.hok.fresh (A7 _),hD0,.nil,E3 _,w0⟩
  rintro n s5 ⟨i,σ',H',acc,its,nn,I5,t5,fr5,d5,g5,va,la,w5⟩
  have I5p:Inv (eQ X N' scope P2.objs.size s2 H2 fp pins) [(s2.heap.objs.size,{ cls:=.type "list",data:=.seq its.toArray nn })] σ' H' s5:=I5.pins_of fun p hp=>by
   rw[List.mem_singleton.mp hp];exact⟨g5,d5,hDC,hfrD,fun v z=>by cases z⟩
  rcases turn i n acc σ' H' w5 with⟨stop,q⟩|⟨go,lt,N,hN,step⟩
  .refine thn (T.done (eQ X N' scope P2.objs.size s2 H2 fp pins) rfl rfl rfl hc i _ s5 σ' H' _ I5p (stat fr5) t5 stop) fun r s6 ⟨hr,I6⟩=>.inl ⟨hr,?_⟩;have d6:=(I6.pin (s2.heap.objs.size,{ cls:=.type "list",data:=.seq its.toArray nn }) (by simp)).1;have nC:H' P2.objs.size=none:=I6.free;refine post _ _ H' acc s6 hDC (let⟨m,hn,_⟩:=I6.loc;⟨m,hn⟩) (fun h' hs'=>?_) (I2.fpOk hC (by rw[aJ hDC.symm];exact nC)) (q _ d5);have up:∀b o,b≠P2.objs.size->s6.heap.get? b=some o->h'.get? b=some o:=fun b o hb e=>hs'.extBut b o hb e;have ltC:∀b o,s2.heap.get? b=some o->b≠P2.objs.size/\b≠s2.heap.objs.size:=fun b o e=>⟨B6 (B7 (A8 e) hC),B6 (A8 e)⟩;have u6:Un (frs X.stack) fp H2 H' s2.heap s6.heap:=I6.base
   have u7:Un (frs X.stack) fp H2 (upd H' s2.heap.objs.size (.lst acc)) s2.heap h':=by
    refine⟨fun b o e n hb hx=>up b o (ltC b o e).1 (u6.keep b o e n hb hx),fun b o e n hb hx=>?_,fun b o e n hx=>?_,fun b o e hx=>?_,fun b xs e=>?_,fun b o u e=>?_,fun b ps e=>?_⟩
    .obtain⟨sl,q⟩:=u6.slot b o e n hb hx;exact⟨sl,up b _ (ltC b o e).1 q⟩
    .rw[aJ (ltC b o e).2];exact u6.free b o e n hx
    .obtain⟨o',q⟩:=u6.there b o e hx;exact⟨o',up b o' (ltC b o e).1 q⟩
    .have z:=u6.tups b xs e;rw[aJ (aO z d5)];exact z
    .have z:=u6.frzs b o u e;rw[aJ (aO z d5)];exact z
    .obtain⟨more,z⟩:=u6.tbls b ps e;exact⟨more,by rw[aJ (aO z d5)];exact z⟩
   have ok7:HOk X.prog X.w (upd H' s2.heap.objs.size (.lst acc)) h':=fun b u e=>by
    by_cases hb:b=s2.heap.objs.size
    .subst hb;rw[aP]at e;cases e;exact⟨la,its,nn,va,up _ _ hDC d6⟩
    .rw[aJ hb]at e;refine(I6.hok b u e).stay (fun c v hc' z=>up c v ?_ z) (fun c z=>by rw[aJ (aO z d5)];exact z) fun c xs z=>by rw[aJ (aO z d5)];exact z
     rcases hc' with rfl|z
     .exact aO e nC
     .exact aO z nC
   have os6:s6.os=s2.os:=I6.os;have ba6:=I6.bare;obtain⟨hh,gg,dd,tt,oo⟩:=s6;subst os6;have z7:=I2.call (s:=s2) (h':=h') (g':=gg) (d':=dd) (t':=tt) (ch:=fp) u7 ok7 ba6 fun b hb=>⟨(f2 b hb).2.2.2.1,(f2 b hb).2.1,(f2 b hb).2.2.2.2.1,(f2 b hb).2.2.2.2.2⟩;exact z7
  .refine thn (T.item (eQ X N' scope P2.objs.size s2 H2 fp pins) rfl rfl rfl hc i _ s5 σ' H' _ I5p (stat fr5) t5 go) fun r s6 ⟨u,hr,h6⟩=>.inr ⟨u,hr,?_⟩;refine thn h6 fun _ s7 ⟨x,H7,I7,r7,y7,t7,fr7⟩=>?_;have I7':=I7.pinned (stat fr7) (T.obj _ _ t7)
   have back:∀{σx:St}{Hx:Hp}{sx:Shared},Inv (eQ X N' scope P2.objs.size s2 H2 fp pins) ([(s2.heap.objs.size,{ cls:=.type "list",data:=.seq its.toArray nn })]++vL fp s7.heap) σx Hx sx->
    (∀b∈fp,∀o,s7.heap.get? b=some o->sx.heap.get? b=some o)/\(∀b∈fp,Hx b=none)/\sx.heap.get? s2.heap.objs.size=some { cls:=.type "list",data:=.seq its.toArray nn }/\Hx s2.heap.objs.size=none:=fun{σx Hx sx} Ix=>by
    refine⟨fun b hb o e=>(Ix.pin (b,o) (B9 _ (B9 _ (gI hb e)))).1,fun b hb=>?_,?_,?_⟩
    .obtain⟨o,e,_⟩:=T.obj _ _ t7 b hb;exact(Ix.pin (b,o) (B9 _ (B9 _ (gI hb e)))).2.1
    .exact(Ix.pin (s2.heap.objs.size,_) (B9 _ (E6 _ (List.mem_singleton.mpr rfl)))).1
    .exact(Ix.pin (s2.heap.objs.size,{ cls:=.type "list",data:=.seq its.toArray nn }) (B9 _ (E6 _ (List.mem_singleton.mpr rfl)))).2.1
   refine thn (hg _ _ _ _ _ _ s7 σ' H7 x u _ I7' r7 (step x H7 y7)) fun _ s8 ⟨σ8,H8,I8,q8⟩=>?_;refine thn (hif _ _ _ _ _ _ s8 σ8 H8 _ I8 q8) fun b s9 ⟨H9,I9,q9⟩=>?_;rcases q9 with⟨rfl,q9⟩|⟨rfl,n9⟩
   .refine .inl ⟨rfl,thn (he _ _ _ _ _ _ s9 σ8 H9 _ I9 q9) fun uv s10 ⟨v,H10,I10,rv,n10⟩=>?_⟩;obtain⟨m',hm,w10⟩:=hN _ _ _ n10;obtain⟨b1,b2,b3,b4⟩:=back I10;refine wpAny_list_append_plain ⟨nn,b3⟩ (fun h' hp hs'=>?_) (by rw[C5,<- va.length];exact la);obtain⟨n2,e2⟩:=hp;have up:∀b o,b≠s2.heap.objs.size->s10.heap.get? b=some o->h'.get? b=some o:=fun b o hb e=>hs'.extBut b o hb e;have I10':Inv (eQ X N' scope P2.objs.size s2 H2 fp pins) [] σ8 H10 s10:=I10.pins_of fun p hp=>absurd hp (by simp);refine⟨m',hm,i+1,σ8,H10,acc++[v],its++[uv],n2,I10'.turned (t':=s10.toks) up b4 hDC (.inr (A7 _)) (fun x c e=>B6 (cne x c e)) (fun p hp=>?_),T.keep _ _ _ t7 fun b hb o e=>up b o (B6 (fplt b hb)) (b1 b hb o e),b2,b4,?_,va.append (.cons rv .nil),?_,w10⟩
    .have hp':p∈X.pn++pins:=by
      rcases List.mem_append.mp hp with z|z
      .exact z
      .exact absurd z (by simp)
     exact B6 (A8 (I2.pin p hp').1)
    .rw[e2];simp
    .rw[B2,List.length_singleton];exact lt
   .obtain⟨m',hm,w9⟩:=hN _ _ _ n9;obtain⟨b1,b2,b3,b4⟩:=back I9;exact .inr ⟨rfl,m',hm,i+1,σ8,H9,acc,its,nn,I9.pins_of fun p hp=>absurd hp (by simp),T.keep _ _ _ t7 b1,b2,b4,b3,va,la,w9⟩
 exact codeAny_compStart_list (loop _ rfl) (T.self _ 0 _ _ _ (T.keep _ _ _ st2 fun b _ o e=>old b o e) (loop _ rfl))
theorem aDo{elt tg iter:Expr}{ifs:List Expr}{pos:Pos}{wi:TI}{g:TG}{tc:TT}{te:TE}(hc:X.calm=true)(S:oO X N' cap scope)(hi:PI X tg iter wi)
 (hg:∀C s H fp pn,PG (eQ X N' scope C s H fp pn) tg g) (hif:∀C s H fp pn,IZ (eQ X N' scope C s H fp pn) ifs tc) (he:∀C s H fp pn,PE (eQ X N' scope C s H fp pn) elt te)
 (hs:∀x,foldedSetIterable iter X.env x=pure x:=by intro _;rfl):PE X (.ListComp elt [⟨tg,iter,ifs,0⟩] scope pos) (tLc cap wi g tc te):=by
 intro pins s σ H Q I h;rw[eval_ListComp];refine XQ (use:=none) (Q:=Q) hc S hi hg hif he hs I h fun D C H' acc s' hDC ⟨m,hn⟩ hI _ hq=>⟨m,hn,fun h' hs'=>?_⟩;exact⟨.ref D,_,hI h' hs',rfl,hq⟩
theorem IK{i:Nat}{x:Str}{elt tg iter:Expr}{ifs:List Expr}{pos pos' pos'':Pos}{wi:TI}{g:TG}{tc:TT}{te:TE}(hN:X.N.Nodup)(hix:X.N[i]?=some x)(hc:X.calm=true)(S:oO X N' cap scope)(hi:PI X tg iter wi)
 (hg:∀C s H fp pn,PG (eQ X N' scope C s H fp pn) tg g) (hif:∀C s H fp pn,IZ (eQ X N' scope C s H fp pn) ifs tc) (he:∀C s H fp pn,PE (eQ X N' scope C s H fp pn) elt te)
 (hsw:swapsWith (.ListComp elt [⟨tg,iter,ifs,0⟩] scope pos) (some (.Name x pos')) pos''.line X.env=pure true:=by rfl) (hx:X.env.scope.names.lookup x=some .local:=by rfl)
 (hs:∀x,foldedSetIterable iter X.env x=pure x:=by intro _;rfl):PS X (.Assign [.Name x pos'] (.ListComp elt [⟨tg,iter,ifs,0⟩] scope pos) pos'') (VC (tLc cap wi g tc te) (IL i)):=by
 intro pins s σ H D I h;rw[exec_Assign_Name_used _ _ _ _ hsw];refine A0 (S0 (A0 ?_));show wpAny _ _ (comprehension (.ListComp elt [⟨tg,iter,ifs,0⟩] scope pos) scope X.env _ (newList []) false (firstIter [⟨tg,iter,ifs,0⟩] X.env) (some (assign (.Name x pos') X.env)) >>= fun _=>pure ()) _ _ s;refine A0 (thn (XQ (use:=some (assign (.Name x pos') X.env)) (QQ:=fun _ s'=>∃σ' H',Inv X pins σ' H' s'/\D.nx σ' H') (Q:=fun v H1=>IL i v σ H1 D.nx) hc S hi hg hif he hs I h fun E C H' acc s' hDC ⟨m,hn⟩ hI fC hq=>?_) fun _ s' hz=>A3 (A3 hz));have I1:Inv X pins σ (upd H' E (.lst acc)) s':=hI s'.heap (Heap.SameBut.refl ..);have I1:Inv X pins σ (upd H' E (.lst acc)) s':=I1;refine wpAny_assign_Name (CY (M:=model X.prog X.w) (A:=X.A) (E:=X.xe) I1 hN hix (.inl hx) (v:=.ref E) (u:=.ref E) rfl (fun s2 I2 hsb=>?_) (.inr hx));obtain⟨a,hs2,ha⟩:=hsb
 have hne:C≠a:=by
  rcases ha with z|z
  .rw[z];exact fC.2.1
  .exact fun w=>fC.2.2.2.2.1 x a z w.symm
 refine⟨m,hn.extBut hs2.extBut hne,fun h' hs'=>?_⟩;exact⟨_,_,I2.turned (t':=s2.toks) (fun b o hb e=>hs'.extBut b o hb e) fC.1 fC.2.1 fC.2.2.2.1 fC.2.2.2.2.1 fC.2.2.2.2.2,hq⟩
end
noncomputable def LQ:Key->PyData
 |.inl i=>.int i
 |.inr x=>.str x
mutual
noncomputable def Rep(K:Fg)(H:Hp):PyData->V->Prop
 |.none,v=>v=.non
 |.bool b,v=>v=.bl b
 |.int i,v=>v=.int i
 |.str x,v=>v=.str x
 |.list xs,v=>∃a vs,v=.ref a/\SqL K H a vs/\aK K H xs vs
 |.tuple xs,v=>∃a vs,v=.ref a/\SqT K H a vs/\aK K H xs vs
 |.dict kvs,v=>∃a ks,v=.ref a/\H a=some (.dK ks)/\mP K H kvs ks
noncomputable def aK(K:Fg)(H:Hp):List PyData->List V->Prop
 |[],vs=>vs=[]
 |d::ds,vs=>∃v r,vs=v::r/\Rep K H d v/\aK K H ds r
noncomputable def mP(K:Fg)(H:Hp):List (PyData×PyData)->List (Key×V)->Prop
 |[],ks=>ks=[]
 |(k,d)::kvs,ks=>∃k' v r,ks=(k',v)::r/\k=LQ k'/\Rep K H d v/\mP K H kvs r
end
theorem iD.seqT{a:Addr}{xs:List V}(e:iD H H')(h:SqT K H a xs):SqT K H' a xs:=by
 rcases h with h|h
 .refine .inl ?_;rcases h with h|⟨o,h⟩
  .exact .inl (e _ _ h)
  .exact .inr ⟨o,e _ _ h⟩
 .exact .inr h
mutual
theorem Rep.same{K:Fg}{H H':Hp}(e:iD H H'):∀(d:PyData)(v:V),Rep K H d v->Rep K H' d v
 |.none=>fun v h=>h
 |.bool b=>fun v h=>h
 |.int i=>fun v h=>h
 |.str x=>fun v h=>h
 |.list xs=>fun v h=>by
  obtain⟨a,vs,h1,h2,h3⟩:=h;exact⟨a,vs,h1,e.seq h2,aK.same e xs vs h3⟩
 |.tuple xs=>fun v h=>by
  obtain⟨a,vs,h1,h2,h3⟩:=h;exact⟨a,vs,h1,e.seqT h2,aK.same e xs vs h3⟩
 |.dict kvs=>fun v h=>by
  obtain⟨a,ks,h1,h2,h3⟩:=h;exact⟨a,ks,h1,e _ _ h2,mP.same e kvs ks h3⟩
theorem aK.same{K:Fg}{H H':Hp}(e:iD H H'):∀(ds:List PyData)(vs:List V),aK K H ds vs->aK K H' ds vs
 |[]=>fun vs h=>h
 |d::ds=>fun vs h=>by
  obtain⟨v,r,h1,h2,h3⟩:=h;exact⟨v,r,h1,Rep.same e d v h2,aK.same e ds r h3⟩
theorem mP.same{K:Fg}{H H':Hp}(e:iD H H'):∀(kvs:List (PyData×PyData))(ks:List (Key×V)),mP K H kvs ks->mP K H' kvs ks
 |[]=>fun ks h=>h
 |(k,d)::kvs=>fun ks h=>by
  obtain⟨k',v,r,h1,h2,h3,h4⟩:=h;exact⟨k',v,r,h1,h2,Rep.same e d v h3,mP.same e kvs r h4⟩
end
theorem aK.length{K:Fg}{H:Hp}:∀{ds:List PyData}{vs:List V},aK K H ds vs->ds.length=vs.length
 |[],vs=>fun h=>by rw[show vs=[]from h];rfl
 |d::ds,vs=>fun h=>by
  obtain⟨v,r,h1,_,h3⟩:=h;rw[h1,C7,C7,aK.length h3]
theorem aK.get{K:Fg}{H:Hp}:∀{ds:List PyData}{vs:List V}{i:Nat}{v:V},aK K H ds vs->vs[i]?=some v->∃d,ds[i]?=some d/\Rep K H d v
 |[],vs,i,v=>fun h e=>by rw[show vs=[]from h]at e;simp at e
 |d::ds,vs,0,v=>fun h e=>by
  obtain⟨w,r,h1,h2,h3⟩:=h;rw[h1]at e;simp at e;subst e;exact⟨d,rfl,h2⟩
 |d::ds,vs,i+1,v=>fun h e=>by
  obtain⟨w,r,h1,h2,h3⟩:=h;rw[h1]at e;exact aK.get (i:=i) h3 (by simpa using e)
theorem aK.app{K:Fg}{H:Hp}:∀{ds es:List PyData}{vs ws:List V},aK K H ds vs->aK K H es ws->aK K H (ds++es) (vs++ws)
 |[],es,vs,ws=>fun h k=>by rw[show vs=[]from h];exact k
 |d::ds,es,vs,ws=>fun h k=>by
  obtain⟨v,r,h1,h2,h3⟩:=h;exact⟨v,r++ws,by rw[h1];rfl,h2,aK.app h3 k⟩
section
variable{X:Cx}{pins:List (Addr×Obj)}{σ:St}{H:Hp}{s:Shared}
theorem Inv.sysN(I:Inv X pins σ H s):H sysModules=none:=by
 obtain⟨o,es,ep,h,_⟩:=I.mod.sysm;exact(I.bs _ _ h).2
theorem Inv.sysL(I:Inv X pins σ H s){a:Addr}{xs:List V}(h:SqL X.K H a xs):sysModules≠a:=by
 intro e;subst e;have hn:=I.sysN;rcases h with(h|⟨o,h⟩)|⟨o,its,n,hk,_,_,hd,_⟩
 .rw[hn]at h;cases h
 .rw[hn]at h;cases h
 .obtain⟨o',es,ep,h',hd'⟩:=I.mod.sysm;have:=I.mod.kin _ _ hk;rw[h']at this;cases this;rw[hd]at hd';cases hd'
mutual
theorem Rep.reads'(I:Inv X pins σ H s):∀(d:PyData)(v:V)(u:Value),Rep X.K H d v->RelV v u->∃as,Reads s.heap u d as/\sysModules∉as
 |.none=>fun v u r q=>by
  rw[show v=.non from r]at q;rw[show u=Value.none from q];exact⟨_,.none,by simp⟩
 |.bool b=>fun v u r q=>by
  rw[show v=.bl b from r]at q;rw[show u=Value.bool b from q];exact⟨_,.bool b,by simp⟩
 |.int i=>fun v u r q=>by
  rw[show v=.int i from r]at q;obtain⟨t,rfl⟩:=(show ∃t,u=Value.int i t from q);exact⟨_,.int i t,by simp⟩
 |.str x=>fun v u r q=>by
  rw[show v=.str x from r]at q;obtain⟨t,rfl⟩:=(show ∃t,u=Value.str x t from q);exact⟨_,.str x t,by simp⟩
 |.list xs=>fun v u r q=>by
  obtain⟨a,vs,rfl,h2,h3⟩:=r;rw[show u=Value.ref a from q];obtain⟨its,hv,⟨o,n,hg,hc,_,hd⟩,_⟩:=I.list h2;obtain⟨as,ha,hs⟩:=aK.reads' I xs vs its h3 hv;exact⟨_,.list hg hc hd (by simpa using ha),fun z=>(List.mem_cons.mp z).elim (I.sysL h2) hs⟩
 |.tuple xs=>fun v u r q=>by
  obtain⟨a,vs,rfl,h2,h3⟩:=r;rw[show u=Value.ref a from q];obtain⟨its,hv,⟨o,hg,hc,n,hd⟩,_⟩:=I.tuple h2;obtain⟨as,ha,hs⟩:=aK.reads' I xs vs its h3 hv;exact⟨_,.tuple hg hc hd (by simpa using ha),hs⟩
 |.dict kvs=>fun v u r q=>by
  obtain⟨a,ks,rfl,h2,h3⟩:=r;rw[show u=Value.ref a from q];obtain⟨_,hS,vs,hkv,o,es,ep,hg,hex,hd,_,hp,_⟩:=(show cK X.prog X.w H s.heap a (.dK ks)from I.hok a _ h2);obtain⟨as,bs,h4,h5,n1,n2⟩:=mP.reads' I kvs ks vs es.toList h3 hkv hp;refine⟨_,.dict hg hex.1 hd h4 h5,fun z=>?_⟩;rcases List.mem_append.mp z with z|z
  .rcases List.mem_cons.mp z with z|z
   .rw[z]at hS;simp at hS
   .exact n1 z
  .exact n2 z
theorem aK.reads'(I:Inv X pins σ H s):∀(ds:List PyData)(vs:List V)(us:List Value),aK X.K H ds vs->bC vs us->∃as,ReadsAll s.heap us ds as/\sysModules∉as
 |[]=>fun vs us r q=>by
  rw[show vs=[]from r]at q;cases q;exact⟨_,.nil,by simp⟩
 |d::ds=>fun vs us r q=>by
  obtain⟨v,t,rfl,h2,h3⟩:=r;cases q with
  |cons q1 q2=>
   obtain⟨as,ha,n1⟩:=Rep.reads' I d v _ h2 q1;obtain⟨bs,hb,n2⟩:=aK.reads' I ds t _ h3 q2;exact⟨_,.cons ha hb,fun z=>(List.mem_append.mp z).elim n1 n2⟩
theorem mP.reads'(I:Inv X pins σ H s):∀(kvs:List (PyData×PyData))(ks:List (Key×V))(vs:List (Key×Value))(es:List DictEntry),mP X.K H kvs ks->KV ks vs->Pairs (cS X.prog X.w) es vs->
 ∃as bs,ReadsAll s.heap (es.map (·.key)) (kvs.map (·.1)) as/\ReadsAll s.heap (es.map (·.val)) (kvs.map (·.2)) bs/\sysModules∉as/\sysModules∉bs
 |[]=>fun ks vs es r q p=>by
  rw[show ks=[]from r]at q;cases q;cases p;exact⟨_,_,.nil,.nil,by simp,by simp⟩
 |(k,d)::kvs=>fun ks vs es r q p=>by
  obtain⟨k',v,t,rfl,h1,h2,h3⟩:=r;cases q with
  |@cons _ kv _ vs' q1 q2=>
   cases p with
   |@cons e _ es' _ p1 p2 p3=>
    obtain⟨as,bs,ha,hb,n1,n2⟩:=mP.reads' I kvs t _ _ h3 q2 p3;obtain⟨cs,hc,n3⟩:=Rep.reads' I d v _ h2 q1.2
    have hkey:Reads s.heap e.key k []:=by
     rw[h1];have p1':BO kv.1 e.key=true:=p1;rw[<- show k'=kv.1 from q1.1]at p1';rcases cU p1' with⟨i,t',rfl,he⟩|⟨x,t',rfl,he⟩
     .rw[he];exact .int i t'
     .rw[he];exact .str x t'
    refine⟨_,_,.cons hkey ha,.cons (show Reads s.heap e.val d cs by rw[p2];exact hc) hb,by simpa using n1,fun z=>(List.mem_append.mp z).elim n3 n2⟩
end
theorem Rep.reads(I:Inv X pins σ H s)(d:PyData)(v:V)(u:Value)(r:Rep X.K H d v)(q:RelV v u):∃as,Reads s.heap u d as:=let⟨as,h,_⟩:=Rep.reads' I d v u r q;⟨as,h⟩
theorem aK.reads(I:Inv X pins σ H s)(ds:List PyData)(vs:List V)(us:List Value)(r:aK X.K H ds vs)(q:bC vs us):∃as,ReadsAll s.heap us ds as:=let⟨as,h,_⟩:=aK.reads' I ds vs us r q;⟨as,h⟩
end
section
variable{X:Cx}
noncomputable def NQ(K:Fg)(neg:Bool):R2:=fun x y H Q=>∃dx dy,Rep K H dx x/\Rep K H dy y/\SeqAt.shaped dx=true/\SeqAt.shaped dy=true/\Q (.bl (if neg then !PyData.eqv dx dy else PyData.eqv dx dy)) H
theorem aFg(hu:X.A.units+64<cLine):OpR X (compareOp .Eq) (NQ X.K false):=by
 intro pins s σ H x y v u Q I rx ry h;obtain⟨dx,dy,hx,hy,sx,sy,q⟩:=h;obtain⟨as,ha⟩:=Rep.reads I dx x v hx rx;obtain⟨bs,hb⟩:=Rep.reads I dy y u hy ry;exact eq_dataH ha hb sx sy hu ⟨.bl _,H,I,rfl,q⟩
theorem YR(hu:X.A.units+64<cLine):OpR X (compareOp .NotEq) (NQ X.K true):=by
 intro pins s σ H x y v u Q I rx ry h;obtain⟨dx,dy,hx,hy,sx,sy,q⟩:=h;obtain⟨as,ha⟩:=Rep.reads I dx x v hx rx;obtain⟨bs,hb⟩:=Rep.reads I dy y u hy ry;exact ne_dataH ha hb sx sy hu ⟨.bl _,H,I,rfl,q⟩
theorem bC.types:∀{Ts:List String}{its:List Value},bC (Ts.map V.ty) its->its=Ts.map Value.type
 |[],_=>fun h=>by cases h;rfl
 |t::Ts,its=>fun h=>by
  cases h with
  |cons r1 r2=>rw[show _=Value.type t from r1,bC.types r2];rfl
theorem bC.bools:∀{bs:List Bool}{its:List Value},bC (bs.map V.bl) its->its=bs.map Value.bool
 |[],_=>fun h=>by cases h;rfl
 |b::bs,its=>fun h=>by
  cases h with
  |cons r1 r2=>rw[show _=Value.bool b from r1,bC.bools r2];rfl
theorem all_range(bs:List Bool):(List.range bs.length).all (fun i=>bs.getD i false)=bs.all id:=by
 rw[S9];simp only[List.all_eq_true,List.mem_range,id];constructor
 .intro h b hb;obtain⟨i,hi,rfl⟩:=List.mem_iff_getElem.mp hb;have:=h i hi;rw[C0,B1 hi]at this;exact this
 .intro h i hi;rw[C0,B1 hi];exact h _ (J8 hi)
theorem KB{prog:Program}{w:World}{A:Around}{bs:List Bool}:TruthOf prog w A (fun i v=>(bs.map Value.bool).toArray[i]?=some v) (fun i=>bs.getD i false):=by
 intro i v s Q E hP hQ;rw[List.getElem?_toArray,D6]at hP;cases e:bs[i]? with
 |none=>rw[e]at hP;cases hP
 |some b=>
  rw[e]at hP;cases hP;have hb:bs.getD i false=b:=by rw[C0,e];rfl
  have hQ':Q (bs.getD i false) s:=hQ;rw[hb]at hQ';exact J2 hQ'
noncomputable def qW:Nat:=2 ^ 8000
noncomputable def NM(i:Int):Prop:=i.natAbs<qW
theorem IV{j:Int}(h:NM j):j.natAbs.log2<9000:=by
 by_cases h0:j.natAbs=0
 .rw[h0];decide +kernel
 .exact O1 ((Nat.log2_lt h0).mpr h) (by decide)
noncomputable def aHv(i j:Int):Prop:=NM i/\NM j
theorem DJ{j:Int}(h:NM j):Builtin.Int.intBits j<=2 ^ 20:=by
 unfold Builtin.Int.intBits;by_cases h0:(j==0)=true
 .rw[A4 h0];exact E3 _
 .rw[A5 h0];have:=IV h;omega
end
structure Callee(P:Program)(w:World)(K:Fg)(mg:Str->Option Value)(base:Heap)(k:Nat)(x:Str)(ps:List Str)(sp:Sp)(q:Bool:=true):Prop where
 ex:∃f fd,gP P w K mg base CX0 k f fd ps sp q/\mg x=some (.ref f)/\PySem.W.keepIn K (.ref f)=true/\Binds K fd ps []
structure Def(K:Fg)(mg:Str->Option Value)(x:Str)(st:Stmt):Prop where
 ex:∃f fd,Fun K x x st f fd/\mg x=some (.ref f)
section
variable{P:Program}{w:World}{K:Fg}{mg:Str->Option Value}{base:Heap}{X:Cx}
theorem Def.ok{x:Str}{st:Stmt}{N ps:List Str}{k:Nat}{sp:Sp}{q:Bool}(D:Def K mg x st)(S:aS N ps (aH st))
 (hb:∀(kV doc pm:Value)(an:Option Addr)(cdv ct:Value)(us:List Value),us.length=ps.length->bindArgs (PySem.W.fnOf x x (cR st) (bF st) (aH st) .none kV doc pm an cdv ct) ⟨us,[]⟩=pure (ps.zip us))
 (len:∀vs H Q E,sp vs H Q E->vs.length=ps.length)
 (hbody:∀(f:Addr)(cdv:Value)(A:Around)(outer:List Env)(s:Shared)(H:Hp)(vs:List V)(Q:VK)(E:XK),bS k (A.deeper (envOfC x (aH st) s.heap.objs.size f cdv)) q->sp vs H Q E->
  ∃t,PSs (kR CX0 P w K mg base N x (aH st) f cdv A outer s H E q).nox (bF st) t/\t { nx:=fun _ H'=>Q .non H',rt:=Q } (start N vs) H):Callee P w K mg base (k+1) x ps sp q:=by
 obtain⟨f,fd,F,m⟩:=D.ex;exact⟨f,fd,F.ok S len fun cdv A outer s H vs Q E hr h=>hbody f cdv A outer s H vs Q E hr h,m,F.kp,F.binds hb⟩
theorem Callee.mono{j k:Nat}{x:Str}{ps:List Str}{sp:Sp}(C:Callee P w K mg base j x ps sp)(h:j<=k):Callee P w K mg base k x ps sp:=by
 obtain⟨f,fd,F,r⟩:=C.ex;exact⟨f,fd,F.mono h,r⟩
theorem def_mk{x:Str}{st:Stmt}{h:Heap}{f:Addr}{oc:Value}{od an:Option Addr}{osl:Array (Option Value)}{kV doc pm cdv ct:Value}(X:K.In h)(G:h.Ns mainGlobals mg)(a:PySem.W.nsIn K mainGlobals x=some (some (.ref f)))
 (l:K.lookup f=some ⟨oc,od,.func (PySem.W.fnOf x x (cR st) (bF st) (aH st) .none kV doc pm an cdv ct),osl⟩) (c:PySem.W.codeIn K cdv x=true) (k:PySem.W.keepIn K (.ref f)=true):Def K mg x st:=
 ⟨f,_,aAa l c k,J3 X G a⟩
theorem aEB{k:Nat}{x:Str}{ps:List Str}{sp:Sp}{p pos:Pos}{e:Expr}{es:List Expr}{t:TA}{q:Bool}(C:Callee X.prog X.w X.K X.mg X.base k x ps sp q)(hr:bS k X.A q)(ha:PA X (e::es) t)(hg:Gl X x:=by rfl)
 (hdb:(x==("__debug__":Str))=false:=by decide) (he:starEach (e::es) X.env=(false,eval e X.env)::starEach es X.env:=by rfl) (hpl:(backTo pos (starEach es X.env)).any (·.1)=false:=by rfl):
 PE X (.Call (.Name x p) (e::es) [] pos) (ZT sp [] E0 t):=by
 obtain⟨f,fd,F,m,kp,b⟩:=C.ex;exact QM F hr hg m kp b .nil aDO ha hdb he hpl
noncomputable def SV(mg:Str->Option Value)(xs:List Str):Prop:=∀x∈xs,mg x=none
theorem SV.of{xs:List Str}(h:SV mg xs)(x:Str)(hx:x∈xs:=by decide +kernel):mg x=none:=h x hx
theorem XU:SV mg []:=fun _ h=>absurd h (by simp)
theorem cH{x:Str}{xs:List Str}(h:mg x=none)(hr:SV mg xs):SV mg (x::xs):=fun y hy=>(List.mem_cons.mp hy).elim (fun e=>e▸h) (hr y)
noncomputable def IW(i j:Int):Prop:=aGr i j\/aHv i j
theorem IW.ok{i j:Int}(h:IW i j):IntMulOk i j:=by
 rcases h with h|h
 .exact h.ok
 .exact IntMulOk.of_bits (DJ h.1) (DJ h.2)
theorem aCE:OpR X (binaryOp .Mult) (rI IW fun i j=>.int (i*j)):=opI fun _ _ _ _ _ _ _ hc q=>mul_int q hc.ok
noncomputable def aDz(_ j:Int):Prop:=0<j/\NM j
theorem ZJ:OpR X (binaryOp .FloorDiv) (rI aDz fun i j=>.int (i / j)):=opI fun i j _ _ _ _ _ hc q=>by
 refine floordiv_int (Int.ne_of_gt hc.1) ?_ (.inl (PyProof.noPylong_of_log2 (IV hc.2)));rw[Int.fdiv_eq_ediv_of_nonneg _ (Int.le_of_lt hc.1)];exact q
end
noncomputable def aDA(sc0:Scope)(N N':List Str)(cap:List (Option Nat))(scope:Scope):Bool:=
 scope.names.all (fun y=>y.2 != .cell)&&(scope.kind==.function)&&scope.names.all (fun y=>y.2 != .local || scope.names.lookup y.1==some .local) &&
 scope.names.all (fun y=>y.2 != .free || (sc0.names.lookup y.1==some .cell || sc0.names.lookup y.1==some .free))&&(cap.length==N'.length) &&
 (List.range cap.length).all fun i=>match cap[i]? with
  |some (some j)=>(match N'[i]?,N[j]? with
   |some x,some y=>x==y&&scope.names.lookup x==some .free
   |_,_=>false)
  |_=>true
theorem jH{X:Cx}{sc0 scope:Scope}{N N':List Str}{cap:List (Option Nat)}(h1:X.env.scope=sc0)(h2:X.N=N)(h:aDA sc0 N N' cap scope=true):oO X N' cap scope:=by
 unfold aDA at h;simp only[Bool.and_eq_true,List.all_eq_true,beq_iff_eq,bne_iff_ne,ne_eq,Bool.or_eq_true,List.mem_range]at h;obtain⟨⟨⟨⟨⟨a,b⟩,c⟩,d⟩,e⟩,f⟩:=h;refine⟨a,b,fun y hy hk=>?_,fun y hy hk=>?_,e,fun i j hij=>?_⟩
 .rcases c y hy with z|z
  .exact absurd hk z
  .exact z
 .show X.env.scope.names.lookup y.1=_\/X.env.scope.names.lookup y.1=_;rw[h1];rcases d y hy with z|z
  .exact absurd hk z
  .exact z
 .have hi:i<cap.length:=(List.getElem?_eq_some_iff.mp hij).1;have g:=f i hi;rw[hij]at g;dsimp only at g;rw[h2];split at g
  .rename_i x y ex ey;rw[B3,beq_iff_eq,beq_iff_eq]at g;exact⟨x,ex,by rw[ey,g.1],g.2⟩
  .cases g
noncomputable def tyName:PyData->String
 |.none=>"NoneType"
 |.bool _=>"bool"
 |.int _=>"int"
 |.str _=>"str"
 |.list _=>"list"
 |.tuple _=>"tuple"
 |.dict _=>"dict"
noncomputable def asked:List String:=["int","bool","str","list","tuple","dict"]
noncomputable def isT(T S:String):Bool:=T==S || (T=="int"&&S=="bool")
noncomputable def sO(T:String)(d:PyData):Bool:=isT T (tyName d)
noncomputable def aHD(S T:String):Option Bool:=if (Value.type S==Value.type T)=true then some true else if PySem.W.kitMeta T=true then(PySem.fastBuiltinMro S).map (·.contains (Value.type T))else none
theorem aAr:(["NoneType","bool","int","str","list","tuple","dict"].all fun S=>asked.all fun T=>aHD S T==some (isT T S))=true:=by decide +kernel
theorem aAk{T:String}{d:PyData}(h:T∈asked):PySem.W.kitOne K (.type (tyName d)) (.type T)=some (sO T d):=by
 have e:PySem.W.kitOne K (.type (tyName d)) (.type T)=aHD (tyName d) T:=rfl;rw[e];have hk:=aAr;rw[List.all_eq_true]at hk;have h1:=hk (tyName d) (by cases d<;>simp[tyName]);rw[List.all_eq_true]at h1;exact eq_of_beq (h1 T h)
theorem OX{K:Fg}{d:PyData}:∀{Ts:List String},(∀T∈Ts,T∈asked)->PySem.W.kitAny K (.type (tyName d)) (Ts.map Value.type)=some (Ts.any fun T=>sO T d)
 |[]=>fun _=>rfl
 |T::Ts=>fun h=>by
  rw[C3];unfold PySem.W.kitAny;rw[aAk (h T B5),L8];cases sO T d with
  |true=>rfl
  |false=>rw[Bool.false_or];exact OX fun U hU=>h U (B4 _ hU)
section
variable{X:Cx}
theorem OK{pins:List (Addr×Obj)}{σ:St}{H:Hp}{s:Shared}(I:Inv X pins σ H s):∀{d:PyData}{v:V}{u:Value},Rep X.K H d v->RelV v u->∃Hc:Heap->Prop,PySem.W.KitX X.K u (.type (tyName d)) Hc/\Hc s.heap/\u≠.builtin "__main__.__loader__#opaque"
 |.none,v,u=>fun h r=>by
  rw[show v=.non from h]at r;cases (show u=Value.none from r);exact⟨_,PySem.W.kitx_none,True.intro,fun z=>nomatch z⟩
 |.bool b,v,u=>fun h r=>by
  rw[show v=.bl b from h]at r;cases (show u=Value.bool b from r);exact⟨_,PySem.W.kitx_bool,True.intro,fun z=>nomatch z⟩
 |.int i,v,u=>fun h r=>by
  rw[show v=.int i from h]at r;obtain⟨t,q⟩:=(show ∃t,u=Value.int i t from r);cases q;exact⟨_,PySem.W.kitx_int,True.intro,fun z=>nomatch z⟩
 |.str x,v,u=>fun h r=>by
  rw[show v=.str x from h]at r;obtain⟨t,q⟩:=(show ∃t,u=Value.str x t from r);cases q;exact⟨_,PySem.W.kitx_str,True.intro,fun z=>nomatch z⟩
 |.list xs,v,u=>fun h r=>by
  obtain⟨a,vs,rfl,h2,_⟩:=h;cases (show u=Value.ref a from r);obtain⟨its,hv,⟨o,n,hg,hc,_,hd⟩,_⟩:=I.list h2;exact⟨_,PySem.W.kitx_list,⟨o,hg,hc⟩,fun z=>nomatch z⟩
 |.tuple xs,v,u=>fun h r=>by
  obtain⟨a,vs,rfl,h2,_⟩:=h;cases (show u=Value.ref a from r);obtain⟨its,hv,⟨o,hg,hc,n,hd⟩,_⟩:=I.tuple h2;exact⟨_,PySem.W.kitx_tuple,⟨o,hg,hc⟩,fun z=>nomatch z⟩
 |.dict kvs,v,u=>fun h r=>by
  obtain⟨a,ks,rfl,h2,_⟩:=h;cases (show u=Value.ref a from r);obtain⟨_,_,vs,_,o,es,ep,h1,hx,_⟩:=(show cK X.prog X.w H s.heap a (.dK ks)from I.hok a _ h2);exact⟨_,PySem.W.kitx_dict,⟨o,h1,hx.1⟩,fun z=>nomatch z⟩
noncomputable def aBh(K:Fg):List V->Hp->VK->Prop:=fun xs H Q=>∃x T d,xs=[x,.ty T]/\T∈asked/\Rep K H d x/\Q (.bl (sO T d)) H
theorem TZ:eD X (.builtin "isinstance") (aBh X.K):=by
 intro pins s σ H xs us Q I r h;obtain⟨x,T,d,rfl,hT,hd,q⟩:=h;obtain⟨u,u',rfl,ru,ru'⟩:=vals2 r;cases (show u'=Value.type T from ru');obtain⟨Hc,Z,hh,hne⟩:=OK I hd ru;exact PySem.W.kia_one Z I.kIn hh (aAk hT) hne fun tk=>⟨.bl _,H,I.tok tk,rfl,q⟩
noncomputable def WS(K:Fg):List V->Hp->VK->Prop:=fun xs H Q=>∃(x:V)(p:Addr)(Ts:List String)(d:PyData),xs=[x,.ref p]/\H p=some (.tup (Ts.map V.ty))/\(∀T∈Ts,T∈asked)/\Rep K H d x/\Q (.bl (Ts.any fun T=>sO T d)) H
theorem MR:eD X (.builtin "isinstance") (WS X.K):=by
 intro pins s σ H xs us Q I r h;obtain⟨x,p,Ts,d,rfl,hp,hT,hd,q⟩:=h;obtain⟨u,u',rfl,ru,ru'⟩:=vals2 r;cases (show u'=Value.ref p from ru');obtain⟨_,its,rv,o,hg,hcl,n,hd'⟩:=(show cK X.prog X.w H s.heap p (.tup (Ts.map V.ty))from I.hok p _ hp);have hits:its=Ts.map Value.type:=bC.types rv;subst hits;obtain⟨oc,od,odt,osl⟩:=o;dsimp only at hcl hd';subst hcl hd';obtain⟨Hc,Z,hh,hne⟩:=OK I hd ru;exact PySem.W.kia_tup Z I.kIn hh hg (OX hT) hne fun tk=>⟨.bl _,H,I.tok tk,rfl,q⟩
end
theorem iD.upd{p:Addr}{o:HO}(h:H p=none):iD H (upd H p o):=fun b u e=>by rw[aJ (aO e h)];exact e
noncomputable def bJ:PyData->Option (List PyData)
 |.list xs=>some xs
 |.tuple xs=>some xs
 |_=>none
theorem mU{K:Fg}{H:Hp}:∀{d:PyData}{v:V}{ds:List PyData},Rep K H d v->bJ d=some ds->∃a vs,v=.ref a/\(SqL K H a vs\/SqT K H a vs)/\aK K H ds vs
 |.list xs,v,ds=>fun h e=>by
  obtain⟨a,vs,h1,h2,h3⟩:=h;cases e;exact⟨a,vs,h1,.inl h2,h3⟩
 |.tuple xs,v,ds=>fun h e=>by
  obtain⟨a,vs,h1,h2,h3⟩:=h;cases e;exact⟨a,vs,h1,.inr h2,h3⟩
 |.none,_,_=>fun _ e=>by cases e
 |.bool _,_,_=>fun _ e=>by cases e
 |.int _,_,_=>fun _ e=>by cases e
 |.str _,_,_=>fun _ e=>by cases e
 |.dict _,_,_=>fun _ e=>by cases e
section
variable{X:Cx}{tg:Expr}
noncomputable def aFZ(K:Fg)(tl:TE):TI:=fun σ H R=>tl σ H fun x H1=>∃a,x=.ref a/\((∃xs,SqL K H1 a xs/\R (Itl K a) H1)\/(∃xs,SqT K H1 a xs/\R (Itt K a) H1))
theorem aEb{l:Expr}{tl:TE}(hl:PE X l tl):PI X tg l (aFZ X.K tl):=by
 intro pins s σ H R I h;refine thn (hl pins s σ H _ I h) fun v s1 hz=>?_;obtain⟨x,H1,I1,r1,a,e,q1⟩:=hz;subst e;cases r1
 have fp:∀b∈[s1.heap.objs.size],mT X pins H1 b:=fun b hb=>by
  have e:b=s1.heap.objs.size:=List.mem_singleton.mp hb;subst e;exact I1.fpOk (A7 _) (I1.hok.fresh (A7 _))
 rcases q1 with⟨xs,hq,q⟩|⟨xs,hq,q⟩
 .obtain⟨its,rv,p,hz⟩:=I1.list hq;refine wpAny_pyIter_list p.isList ?_;exact⟨s1.heap.objs.size,[s1.heap.objs.size],_,_,H1,rfl,I1.kept (t':=s1.toks) fun b o e=>A2 _ e,SU a _,⟨_,B0 _ rfl,rfl,rfl⟩,fp,q⟩
 .obtain⟨its,rv,p,hz⟩:=I1.tuple hq;refine A0d (show s1.heap.IsTuple a its.toArray from p) ?_;exact⟨s1.heap.objs.size,[s1.heap.objs.size],_,_,H1,rfl,I1.kept (t':=s1.toks) fun b o e=>A2 _ e,LZ a _,⟨_,B0 _ rfl,rfl,rfl⟩,fp,q⟩
end
inductive CD where
 |d (x:PyData)
 |c (n:Nat)
 |t (xs:List (PyData ⊕ Nat))
 |f (kvs:List (List Key×PyData))
inductive Cell where
 |lst (xs:List CD)
 |dk (kvs:List (Key×CD))
 |dt (kvs:List (List Key×CD))
 |obj (nm:Str) (fs:List (Str×CD))
 |exc (fr:Bool) (nm:Str) (fs:List (Str×CD))
 |dead
structure Wd where
 F:Hp
 α:Nat->Addr
 n:Nat
structure Wd.Ext(W W':Wd):Prop where
 ff:iD W.F W'.F
 ln:W.n<=W'.n
 al:∀i,i<W.n->W'.α i=W.α i
theorem Wd.Ext.refl(W:Wd):W.Ext W:=⟨iD.refl _,A7 _,fun _ _=>rfl⟩
theorem Wd.Ext.trans{W1 W2:Wd}(a:W.Ext W1)(b:W1.Ext W2):W.Ext W2:=⟨a.ff.trans b.ff,D3 a.ln b.ln,fun i h=>(b.al i (B7 h a.ln)).trans (a.al i h)⟩
noncomputable def CI(K:Fg)(W:Wd):PyData ⊕ Nat->V->Prop
 |.inl x,v=>Rep K W.F x v
 |.inr i,v=>i<W.n/\v=.ref (W.α i)
noncomputable def cdA:PyData ⊕ Nat->CD
 |.inl x=>.d x
 |.inr i=>.c i
noncomputable def bP(K:Fg)(W:Wd):CD->V->Prop
 |.d x,v=>Rep K W.F x v
 |.c i,v=>i<W.n/\v=.ref (W.α i)
 |.t xs,v=>∃a vs,v=.ref a/\W.F a=some (.tup vs)/\Paired (CI K W) xs vs
 |.f kvs,v=>∃a o us,v=.ref a/\W.F a=some (.frz o (.dT us))/\Paired (fun p q=>p.1=q.1/\Rep K W.F p.2 q.2) kvs us
noncomputable abbrev bM(K:Fg)(W:Wd):List CD->List V->Prop:=Paired (bP K W)
noncomputable def IA(K:Fg)(W:Wd):Option CD->Option V->Prop
 |none,none=>True
 |some x,some v=>bP K W x v
 |_,_=>False
noncomputable abbrev cF(K:Fg)(W:Wd):List (Option CD)->St->Prop:=Paired (IA K W)
noncomputable def aR(K:Fg)(nm:Str):Addr:=match PySem.W.nsIn K mainGlobals nm with
 |some (some (.ref C))=>C
 |_=>0
noncomputable def oM(a:Addr)(c:Value)(dx:Option Addr)(fr:Bool)(h:Heap):Prop:=∃o vs,h.get? a=some o/\o.cls=c/\o.dict=dx/\o.data=.fields vs/\(fr=true->1<vs.size/\vs[1]?=some .none)
noncomputable def JQ(K:Fg)(W:Wd)(dx:Option Addr)(fs:List (Str×CD)):Prop:=match dx with
 |none=>fs=[]
 |some d=>fs≠[]/\∃us,W.F d=some (.xd us)/\Paired (fun p q=>p.1=q.1/\bP K W p.2 q.2) fs us
noncomputable def RW(K:Fg)(W:Wd)(a:Addr):Cell->HO->Prop
 |.lst xs,.lst vs=>bM K W xs vs
 |.dk kvs,.dK us=>Paired (fun p q=>p.1=q.1/\bP K W p.2 q.2) kvs us
 |.dt kvs,.dT us=>Paired (fun p q=>p.1=q.1/\bP K W p.2 q.2) kvs us
 |.obj nm fs,.ins C _ us=>C=aR K nm/\Paired (fun p q=>p.1=q.1/\bP K W p.2 q.2) fs us
 |.exc fr nm fs,.ext φ=>∃dx,φ=oM a (.ref (aR K nm)) dx fr/\JQ K W dx fs
 |_,_=>False
structure Good(K:Fg)(W:Wd)(M:List Cell)(H:Hp):Prop where
 fh:iD W.F H
 n:W.n=M.length
 cs:∀i c,M[i]?=some c->c≠.dead->W.F (W.α i)=none/\∃o,H (W.α i)=some o/\RW K W (W.α i) c o
 inj:∀i j c c',M[i]?=some c->M[j]?=some c'->c≠.dead->c'≠.dead->W.α i=W.α j->i=j
section
variable{K:Fg}{W W':Wd}{M M':List Cell}{H H':Hp}
theorem CI.up{x:PyData ⊕ Nat}{v:V}(h:CI K W x v)(e:W.Ext W'):CI K W' x v:=by
 cases x with
 |inl x=>exact Rep.same e.ff _ _ h
 |inr i=>exact⟨B7 h.1 e.ln,by rw[e.al i h.1];exact h.2⟩
theorem bP.up{x:CD}{v:V}(h:bP K W x v)(e:W.Ext W'):bP K W' x v:=by
 cases x with
 |d x=>exact Rep.same e.ff _ _ h
 |c i=>exact⟨B7 h.1 e.ln,by rw[e.al i h.1];exact h.2⟩
 |t xs=>
  obtain⟨a,vs,h1,h2,h3⟩:=h;exact⟨a,vs,h1,e.ff _ _ h2,Paired.mapP h3 fun _ _ r=>CI.up r e⟩
 |f kvs=>
  obtain⟨a,o,us,h1,h2,h3⟩:=h;exact⟨a,o,us,h1,e.ff _ _ h2,Paired.mapP h3 fun _ _ r=>⟨r.1,Rep.same e.ff _ _ r.2⟩⟩
theorem bM.up{xs:List CD}{vs:List V}(h:bM K W xs vs)(e:W.Ext W'):bM K W' xs vs:=Paired.mapP h fun _ _ r=>bP.up r e
theorem cF.up{γ:List (Option CD)}{σ:St}(h:cF K W γ σ)(e:W.Ext W'):cF K W' γ σ:=Paired.mapP h fun a b r=>by
 cases a<;>cases b
 .exact True.intro
 .exact False.elim r
 .exact False.elim r
 .exact bP.up r e
theorem JQ.up{dx:Option Addr}{fs:List (Str×CD)}(h:JQ K W dx fs)(e:W.Ext W'):JQ K W' dx fs:=by
 cases dx with
 |none=>exact h
 |some d=>
  obtain⟨h0,us,h1,h2⟩:=h;exact⟨h0,us,e.ff _ _ h1,Paired.mapP h2 fun _ _ r=>⟨r.1,bP.up r.2 e⟩⟩
theorem RW.up{a:Addr}{c:Cell}{o:HO}(h:RW K W a c o)(e:W.Ext W'):RW K W' a c o:=by
 cases c<;>cases o<;>first|exact(let⟨dx,h1,h2⟩:=h;⟨dx,h1,h2.up e⟩)|exact False.elim h|exact bM.up h e|exact Paired.mapP h fun _ _ r=>⟨r.1,bP.up r.2 e⟩|exact⟨h.1,Paired.mapP h.2 fun _ _ r=>⟨r.1,bP.up r.2 e⟩⟩
theorem Good.lay(g:Good K W M H){p:Addr}{o:HO}(hp:H p=none):W.Ext { W with F:=upd W.F p o }/\Good K { W with F:=upd W.F p o } M (upd H p o):=by
 have fp:W.F p=none:=g.fh.free hp;have e:W.Ext { W with F:=upd W.F p o }:=⟨iD.upd fp,A7 _,fun _ _=>rfl⟩;refine⟨e,?_,g.n,fun i c hi hc=>?_,g.inj⟩
 .intro b u hb;have hb:upd W.F p o b=some u:=hb;by_cases q:b=p
  .subst q;rw[aP]at hb;rw[aP];exact hb
  .rw[aJ q]at hb;rw[aJ q];exact g.fh b u hb
 .obtain⟨h1,o',h2,h3⟩:=g.cs i c hi hc;have ne:W.α i≠p:=aO h2 hp;exact⟨by show upd W.F p o (W.α i)=none;rw[aJ ne];exact h1,o',by rw[aJ ne];exact h2,h3.up e⟩
noncomputable def Wd.more(W:Wd)(p:Addr):Wd:={ W with α:=fun i=>if i=W.n then p else W.α i,n:=W.n+1 }
theorem Wd.ext_more(W:Wd)(p:Addr):W.Ext (W.more p):=⟨iD.refl _,Nat.le_succ _,fun i h=>A5 (B6 h)⟩
theorem Good.new(g:Good K W M H){p:Addr}{c:Cell}{o:HO}(hp:H p=none)(r:RW K W p c o):Good K (W.more p) (M++[c]) (upd H p o):=by
 have e:=W.ext_more p
 have at_:∀i c',(M++[c])[i]?=some c'->(i<M.length/\M[i]?=some c')\/(i=M.length/\c'=c):=fun i c' h=>by
  by_cases q:i<M.length
  .rw[F6 q]at h;exact .inl ⟨q,h⟩
  .rw[F4 (Nat.le_of_not_lt q)]at h
   have h':i-M.length=0:=by
    cases k:i-M.length with
    |zero=>rfl
    |succ m=>rw[k]at h;simp at h
   rw[h']at h;refine .inr ⟨by omega,?_⟩;simpa using h.symm
 have al:∀i,i<M.length->(W.more p).α i=W.α i:=fun i h=>e.al i (by rw[g.n];exact h);have an:(W.more p).α M.length=p:=by show(if M.length=W.n then p else _)=p;rw[A4 g.n.symm]
 have nep:∀i c',M[i]?=some c'->c'≠.dead->W.α i≠p:=fun i c' h hc=>by
  obtain⟨_,o',h2,_⟩:=g.cs i c' h hc;exact aO h2 hp
 refine⟨?_,?_,fun i c' hi hc=>?_,fun i j c1 c2 hi hj d1 d2 he=>?_⟩
 .intro b u hb;have:=g.fh b u hb;rw[aJ (aO this hp)];exact this
 .show W.n+1=_;rw[g.n,B2];rfl
 .rcases at_ i c' hi with⟨q,h⟩|⟨rfl,rfl⟩
  .obtain⟨h1,o',h2,h3⟩:=g.cs i c' h hc;rw[al i q];exact⟨h1,o',by rw[aJ (nep i c' h hc)];exact h2,h3.up e⟩
  .rw[an];exact⟨g.fh.free hp,o,aP,r.up e⟩
 .rcases at_ i c1 hi with⟨q,h⟩|⟨rfl,rfl⟩
  .rcases at_ j c2 hj with⟨q',h'⟩|⟨rfl,rfl⟩
   .rw[al i q,al j q']at he;exact g.inj i j c1 c2 h h' d1 d2 he
   .rw[al i q,an]at he;exact absurd he (nep i c1 h d1)
  .rcases at_ j c2 hj with⟨q',h'⟩|⟨rfl,rfl⟩
   .rw[an,al j q']at he;exact absurd he.symm (nep j c2 h' d2)
   .rfl
theorem Good.set(g:Good K W M H){i:Nat}{c c':Cell}{o':HO}(hi:M[i]?=some c)(hc:c≠.dead)(r:RW K W (W.α i) c' o'):Good K W (M.set i c') (upd H (W.α i) o'):=by
 obtain⟨h1,o,h2,h3⟩:=g.cs i c hi hc;have lt:i<M.length:=(List.getElem?_eq_some_iff.mp hi).1
 have at_:∀j d,(M.set i c')[j]?=some d->(j=i/\d=c')\/(j≠i/\M[j]?=some d):=fun j d h=>by
  by_cases q:i=j
  .subst q;rw[E1 lt]at h;exact .inl ⟨rfl,(D2 h).symm⟩
  .rw[D7 q]at h;exact .inr ⟨fun z=>q z.symm,h⟩
 refine⟨?_,by rw[g.n,Y6],fun j d hj hd=>?_,fun j k d1 d2 hj hk e1 e2 he=>?_⟩
 .intro b u hb;rw[aJ (aO hb h1)];exact g.fh b u hb
 .rcases at_ j d hj with⟨rfl,rfl⟩|⟨q,h⟩
  .exact⟨h1,o',aP,r⟩
  .obtain⟨k1,u,k2,k3⟩:=g.cs j d h hd;have ne:W.α j≠W.α i:=fun z=>q (g.inj j i d c h hi hd hc z);exact⟨k1,u,by rw[aJ ne];exact k2,k3⟩
 .rcases at_ j d1 hj with⟨rfl,rfl⟩|⟨q,h⟩<;>rcases at_ k d2 hk with⟨rfl,rfl⟩|⟨q',h'⟩
  .rfl
  .exact g.inj _ k c d2 hi h' hc e2 he
  .exact g.inj j _ d1 c h hi e1 hc he
  .exact g.inj j k d1 d2 h h' e1 e2 he
end
noncomputable abbrev Ga:=List (Option CD)
noncomputable abbrev Sto:=List Cell
noncomputable abbrev EF:=Ga->Sto->Option (CD×Sto)
noncomputable abbrev TF:=Ga->Sto->Option (Bool×Sto)
noncomputable abbrev AF:=Ga->Sto->Option (List CD×Sto)
inductive Out where
 |nx (γ:Ga)|bk (γ:Ga)|ct (γ:Ga)|rt (x:CD)
noncomputable abbrev SF:=Ga->Sto->Option (Out×Sto)
noncomputable abbrev GF:=CD->Ga->Sto->Option (Ga×Sto)
noncomputable abbrev GsF:=List CD->Ga->Sto->Option (Ga×Sto)
noncomputable abbrev F1:=CD->Sto->Option (CD×Sto)
noncomputable abbrev F2:=CD->CD->Sto->Option (CD×Sto)
noncomputable abbrev FN:=List CD->Sto->Option (CD×Sto)
section
variable(K:Fg)
noncomputable def SE(t:TE)(f:EF):Prop:=∀γ M x M',f γ M=some (x,M')->∀(W:Wd)(H:Hp)(σ:St)(Q:VK),Good K W M H->cF K W γ σ->(∀v W' H',W.Ext W'->Good K W' M' H'->bP K W' x v->Q v H')->t σ H Q
noncomputable def STt(t:TT)(f:TF):Prop:=∀γ M b M',f γ M=some (b,M')->∀(W:Wd)(H:Hp)(σ:St)(Q:Bool->Hp->Prop),Good K W M H->cF K W γ σ->(∀W' H',W.Ext W'->Good K W' M' H'->Q b H')->t σ H Q
noncomputable def SA(t:TA)(f:AF):Prop:=∀γ M xs M',f γ M=some (xs,M')->∀(W:Wd)(H:Hp)(σ:St)(Q:List V->Hp->Prop),Good K W M H->cF K W γ σ->(∀vs W' H',W.Ext W'->Good K W' M' H'->bM K W' xs vs->Q vs H')->t σ H Q
noncomputable def YG(D:Ends)(W:Wd)(H:Hp):Out->Prop
 |.nx γ=>∀σ,cF K W γ σ->D.nx σ H
 |.bk γ=>∀σ,cF K W γ σ->D.bk σ H
 |.ct γ=>∀σ,cF K W γ σ->D.ct σ H
 |.rt x=>∀v,bP K W x v->D.rt v H
noncomputable def SS(t:TS)(f:SF):Prop:=∀γ M o M',f γ M=some (o,M')->∀(W:Wd)(H:Hp)(σ:St)(D:Ends),Good K W M H->cF K W γ σ->(∀W' H',W.Ext W'->Good K W' M' H'->YG K D W' H' o)->t D σ H
noncomputable def SG(t:TG)(f:GF):Prop:=∀x γ M γ' M',f x γ M=some (γ',M')->∀(W:Wd)(H:Hp)(σ:St)(v:V)(Q:St->Hp->Prop),Good K W M H->cF K W γ σ->bP K W x v->(∀σ' W' H',W.Ext W'->Good K W' M' H'->cF K W' γ' σ'->Q σ' H')->t v σ H Q
noncomputable def SGs(t:TGs)(f:GsF):Prop:=∀xs γ M γ' M',f xs γ M=some (γ',M')->∀(W:Wd)(H:Hp)(σ:St)(vs:List V)(Q:St->Hp->Prop),Good K W M H->cF K W γ σ->bM K W xs vs->(∀σ' W' H',W.Ext W'->Good K W' M' H'->cF K W' γ' σ'->Q σ' H')->t vs σ H Q
noncomputable def P2(r:R2)(f:F2):Prop:=∀x y M z M',f x y M=some (z,M')->∀(W:Wd)(H:Hp)(v u:V)(Q:VK),Good K W M H->bP K W x v->bP K W y u->(∀w W' H',W.Ext W'->Good K W' M' H'->bP K W' z w->Q w H')->r v u H Q
noncomputable def P1(r:V->Hp->VK->Prop)(f:F1):Prop:=∀x M z M',f x M=some (z,M')->∀(W:Wd)(H:Hp)(v:V)(Q:VK),Good K W M H->bP K W x v->(∀w W' H',W.Ext W'->Good K W' M' H'->bP K W' z w->Q w H')->r v H Q
noncomputable def PN(r:List V->Hp->VK->Prop)(f:FN):Prop:=∀xs M z M',f xs M=some (z,M')->∀(W:Wd)(H:Hp)(vs:List V)(Q:VK),Good K W M H->bM K W xs vs->(∀w W' H',W.Ext W'->Good K W' M' H'->bP K W' z w->Q w H')->r vs H Q
noncomputable def spM(f:FN):Sp:=fun vs H Q _=>∃xs M W y M',Good K W M H/\bM K W xs vs/\f xs M=some (y,M')/\∀v W' H',W.Ext W'->Good K W' M' H'->bP K W' y v->Q v H'
end
noncomputable def aD(i:Nat):EF:=fun γ M=>match γ[i]? with
 |some (some x)=>some (x,M)
 |_=>none
noncomputable def fC(x:PyData):EF:=fun _ M=>some (.d x,M)
noncomputable def fOp(h:F2)(f g:EF):EF:=fun γ M=>(f γ M).bind fun r=>(g γ r.2).bind fun q=>h r.1 q.1 q.2
noncomputable def fUn(h:F1)(f:EF):EF:=fun γ M=>(f γ M).bind fun r=>h r.1 r.2
noncomputable def asB:CD->Option Bool
 |.d (.bool b)=>some b
 |_=>none
noncomputable def jV(f g:EF):EF:=fun γ M=>(f γ M).bind fun r=>(asB r.1).bind fun b=>if b=true then g γ r.2 else some (.d (.bool false),r.2)
noncomputable def fOr(f g:EF):EF:=fun γ M=>(f γ M).bind fun r=>(asB r.1).bind fun b=>if b=true then some (.d (.bool true),r.2)else g γ r.2
noncomputable def RS(f:EF):EF:=fun γ M=>(f γ M).bind fun r=>(asB r.1).bind fun b=>some (.d (.bool (!b)),r.2)
noncomputable def fIf(t:TF)(f g:EF):EF:=fun γ M=>(t γ M).bind fun r=>if r.1=true then f γ r.2 else g γ r.2
noncomputable def aIJ(f g:TF):TF:=fun γ M=>(f γ M).bind fun r=>if r.1=true then g γ r.2 else some (false,r.2)
noncomputable def gOr(f g:TF):TF:=fun γ M=>(f γ M).bind fun r=>if r.1=true then some (true,r.2)else g γ r.2
noncomputable def pC(f:TF):TF:=fun γ M=>(f γ M).bind fun r=>some (!r.1,r.2)
noncomputable def gB(f:EF):TF:=fun γ M=>(f γ M).bind fun r=>(asB r.1).bind fun b=>some (b,r.2)
noncomputable def zH(h h':F2)(f g e:EF):EF:=fun γ M=>(f γ M).bind fun r=>(g γ r.2).bind fun q=>(h r.1 q.1 q.2).bind fun z=>(asB z.1).bind fun b=>if b=true then(e γ z.2).bind fun w=>h' q.1 w.1 w.2 else some (.d (.bool false),z.2)
noncomputable def aI:AF:=fun _ M=>some ([],M)
noncomputable def aB(f:EF)(g:AF):AF:=fun γ M=>(f γ M).bind fun r=>(g γ r.2).bind fun q=>some (r.1::q.1,q.2)
noncomputable def hV:List CD->Option (List PyData)
 |[]=>some []
 |.d x::r=>(hV r).map (x::·)
 |.c _::_=>none
 |.t _::_=>none
 |.f _::_=>none
noncomputable def bR(f:AF):EF:=fun γ M=>(f γ M).bind fun r=>(hV r.1).bind fun ds=>if ds.length<=sizeLine then some (.d (.tuple ds),r.2)else none
noncomputable def nH(f:AF):EF:=fun γ M=>(f γ M).bind fun r=>(hV r.1).bind fun ds=>if ds.length<=sizeLine then some (.d (.list ds),r.2)else none
noncomputable def uE(f:AF):EF:=fun γ M=>(f γ M).bind fun r=>if r.1.length<=sizeLine then some (.c r.2.length,r.2++[.lst r.1])else none
noncomputable def aM(h:FN)(f:AF):EF:=fun γ M=>(f γ M).bind fun r=>h r.1 r.2
noncomputable def cZ:SF:=fun γ M=>some (.nx γ,M)
noncomputable def bK(f g:SF):SF:=fun γ M=>(f γ M).bind fun r=>match r.1 with
 |.nx γ'=>g γ' r.2
 |o=>some (o,r.2)
noncomputable def AR(f:EF):SF:=fun γ M=>(f γ M).bind fun r=>some (.nx γ,r.2)
noncomputable def cG(f:EF):SF:=fun γ M=>(f γ M).bind fun r=>some (.rt r.1,r.2)
noncomputable def aHk:SF:=fun _ M=>some (.rt (.d .none),M)
noncomputable def sIf(c:TF)(f g:SF):SF:=fun γ M=>(c γ M).bind fun r=>if r.1=true then f γ r.2 else g γ r.2
noncomputable def cN(f:EF)(g:GF):SF:=fun γ M=>(f γ M).bind fun r=>(g r.1 γ r.2).bind fun q=>some (.nx q.1,q.2)
noncomputable def hName(i:Nat):GF:=fun x γ M=>some (γ.set i (some x),M)
noncomputable def oR:GsF:=fun xs γ M=>match xs with
 |[]=>some (γ,M)
 |_=>none
noncomputable def bZ(f:GF)(g:GsF):GsF:=fun xs γ M=>match xs with
 |x::r=>(f x γ M).bind fun q=>g r q.1 q.2
 |[]=>none
noncomputable def sJ(n:Nat)(g:GsF):GF:=fun x γ M=>match x with
 |.d (.tuple ds)=>if ds.length=n then g (ds.map .d) γ M else none
 |.t xs=>if xs.length=n then g (xs.map cdA) γ M else none
 |_=>none
noncomputable abbrev F3:=CD->CD->CD->Sto->Option Sto
noncomputable def hSub(fo fi:EF)(s:F3):GF:=fun x γ M=>(fo γ M).bind fun r=>(fi γ r.2).bind fun q=>(s r.1 q.1 x q.2).bind fun M'=>some (γ,M')
noncomputable def HS(i j:Nat)(f:AF):SF:=fun γ M=>(f γ M).bind fun r=>match r.1 with
 |[x,y]=>some (.nx ((γ.set i (some x)).set j (some y)),r.2)
 |_=>none
noncomputable def pX(g:GF)(b:SF):List CD->Ga->Sto->Option (Out×Sto)
 |[],γ,M=>some (.nx γ,M)
 |x::xs,γ,M=>(g x γ M).bind fun r=>(b r.1 r.2).bind fun q=>match q.1 with
  |.nx γ'=>pX g b xs γ' q.2
  |.ct γ'=>pX g b xs γ' q.2
  |.bk γ'=>some (.nx γ',q.2)
  |.rt x=>some (.rt x,q.2)
noncomputable def xK(f:AF)(g:GF)(b:SF):SF:=fun γ M=>(f γ M).bind fun r=>pX g b r.1 γ r.2
noncomputable def fP(c:TF)(b:SF):Nat->Ga->Sto->Option (Out×Sto)
 |0,_,_=>none
 |n+1,γ,M=>(c γ M).bind fun r=>if r.1=true then(b γ r.2).bind fun q=>match q.1 with
  |.nx γ'=>fP c b n γ' q.2
  |.ct γ'=>fP c b n γ' q.2
  |.bk γ'=>some (.nx γ',q.2)
  |.rt x=>some (.rt x,q.2)else some (.nx γ,r.2)
open Classical in
noncomputable def sY(c:TF)(b:SF):SF:=fun γ M=>if h:∃n,(fP c b n γ M).isSome=true then fP c b h.choose γ M else none
noncomputable def lcF(g:GF)(c:TF)(e:EF):List CD->Ga->Sto->Option (List CD×Sto)
 |[],γ,M=>some ([],M)
 |x::xs,γ,M=>(g x γ M).bind fun a=>(c a.1 a.2).bind fun b=>if b.1=true then(e a.1 b.2).bind fun r=>(lcF g c e xs a.1 r.2).bind fun q=>some (r.1::q.1,q.2)else lcF g c e xs a.1 b.2
noncomputable def qN(cap:List (Option Nat))(γ:Ga):Ga:=cap.map fun o=>o.bind fun j=>(γ[j]?).join
noncomputable def rN:TF:=fun _ M=>some (true,M)
noncomputable def mS(cap:List (Option Nat))(f:AF)(g:GF)(c:TF)(e:EF):AF:=fun γ M=>(f γ M).bind fun r=>if r.1.length<=sizeLine then lcF g c e r.1 (qN cap γ) r.2 else none
noncomputable def fLc(cap:List (Option Nat))(f:AF)(g:GF)(c:TF)(e:EF):EF:=nH (mS cap f g c e)
noncomputable def aAW(cap:List (Option Nat))(f:AF)(g:GF)(c:TF)(e:EF):EF:=uE (mS cap f g c e)
noncomputable def fnF(ps N:Nat)(b:SF):FN:=fun xs M=>if xs.length=ps then(b (xs.map some++List.replicate (N-xs.length) none) M).bind fun r=>match r.1 with
 |.rt x=>some (x,r.2)
 |.nx _=>some (.d .none,r.2)
 |_=>none else none
theorem aG{α β:Type}{o:Option α}{k:α->Option β}{r:β}(h:o.bind k=some r):∃a,o=some a/\k a=some r:=by
 cases o with
 |none=>cases h
 |some a=>exact⟨a,rfl,h⟩
theorem Paired.get{α β:Type}{R:α->β->Prop}:∀{xs:List α}{ys:List β}{i:Nat}{x:α},Paired R xs ys->xs[i]?=some x->∃y,ys[i]?=some y/\R x y
 |_,_,_,_,.nil=>fun e=>by simp at e
 |_,_,0,_,.cons r _=>fun e=>by simp at e;subst e;exact⟨_,rfl,r⟩
 |_,_,i+1,x,.cons _ t=>fun e=>by
  obtain⟨u,h1,h2⟩:=Paired.get (i:=i) (x:=x) t (by simpa using e);exact⟨u,by simpa using h1,h2⟩
theorem Paired.set{α β:Type}{R:α->β->Prop}{x:α}{y:β}(r:R x y):∀{xs:List α}{ys:List β}(i:Nat),Paired R xs ys->Paired R (xs.set i x) (ys.set i y)
 |_,_,_,.nil=>.nil
 |_,_,0,.cons _ t=>.cons r t
 |_,_,i+1,.cons q t=>.cons q (Paired.set r i t)
theorem Paired.app{α β:Type}{R:α->β->Prop}:∀{xs xs':List α}{ys ys':List β},Paired R xs ys->Paired R xs' ys'->Paired R (xs++xs') (ys++ys')
 |_,_,_,_,.nil=>fun s=>s
 |_,_,_,_,.cons r t=>fun s=>.cons r (Paired.app t s)
theorem Paired.len{α β:Type}{R:α->β->Prop}{xs:List α}{ys:List β}(p:Paired R xs ys):xs.length=ys.length:=Z4 p
section
variable{K:Fg}
theorem cX{W:Wd}:∀{xs:List CD}{ds:List PyData}{vs:List V},hV xs=some ds->bM K W xs vs->aK K W.F ds vs
 |[],ds,vs=>fun e h=>by
  cases e;cases h;rfl
 |.c _::_,ds,vs=>fun e h=>by cases e
 |.t _::_,ds,vs=>fun e h=>by cases e
 |.f _::_,ds,vs=>fun e h=>by cases e
 |.d x::r,ds,vs=>fun e h=>by
  cases h with
  |@cons _ v _ vs' h1 h2=>
   unfold hV at e;cases q:hV r with
   |none=>rw[q]at e;cases e
   |some es=>
    rw[q]at e;cases e;exact⟨v,vs',rfl,h1,cX q h2⟩
theorem PK{xs:List (PyData ⊕ Nat)}{vs:List V}(h:Paired (CI K W) xs vs):bM K W (xs.map cdA) vs:=by
 induction h with
 |nil=>exact .nil
 |@cons x v _ _ r _ ih=>exact .cons (by cases x<;>exact r) ih
theorem jQ{W:Wd}:∀{ds:List PyData}{vs:List V},aK K W.F ds vs->bM K W (ds.map .d) vs
 |[],vs=>fun h=>by rw[show vs=[]from h];exact .nil
 |d::ds,vs=>fun h=>by
  obtain⟨v,r,rfl,h1,h2⟩:=h;exact .cons h1 (jQ h2)
theorem AG:∀{xs:List CD}{ds:List PyData},hV xs=some ds->ds.length=xs.length
 |[],ds=>fun e=>by cases e;rfl
 |.c _::_,ds=>fun e=>by cases e
 |.t _::_,ds=>fun e=>by cases e
 |.f _::_,ds=>fun e=>by cases e
 |.d x::r,ds=>fun e=>by
  unfold hV at e;cases q:hV r with
  |none=>rw[q]at e;cases e
  |some es=>
   rw[q]at e;cases e;rw[C7,C7,AG q]
theorem aFC{i:Nat}:SE K (aHu i) (aD i):=by
 intro γ M x M' h W H σ Q g r k;unfold aD at h;cases e:γ[i]? with
 |none=>rw[e]at h;cases h
 |some o=>
  cases o with
  |none=>rw[e]at h;cases h
  |some y=>
   rw[e]at h;cases h;obtain⟨v,hv,rv⟩:=Paired.get r e;cases v with
   |none=>exact False.elim rv
   |some v=>exact⟨v,hv,k v W H (.refl _) g rv⟩
theorem YE{i:Int}:SE K (tC (.int i)) (fC (.int i)):=by
 intro γ M x M' h W H σ Q g r k;cases h;exact k _ W H (.refl _) g rfl
theorem aIe{b:Bool}:SE K (tC (.bl b)) (fC (.bool b)):=by
 intro γ M x M' h W H σ Q g r k;cases h;exact k _ W H (.refl _) g rfl
theorem aFh:SE K (tC .non) (fC .none):=by
 intro γ M x M' h W H σ Q g r k;cases h;exact k _ W H (.refl _) g rfl
theorem aGN{x:Str}:SE K (tC (.str x)) (fC (.str x)):=by
 intro γ M x M' h W H σ Q g r k;cases h;exact k _ W H (.refl _) g rfl
variable{ta tb tc:TE}{f g e:EF}{tt uu:TT}{ft gt:TF}{tA:TA}{fa:AF}
theorem QJ{r:R2}{h:F2}(p:P2 K r h)(a:SE K ta f)(b:SE K tb g):SE K (tOp r ta tb) (fOp h f g):=by
 intro γ M x M' hh W H σ Q G R k;obtain⟨⟨y,M1⟩,h1,hh⟩:=aG hh;obtain⟨⟨z,M2⟩,h2,hh⟩:=aG hh;refine a _ _ _ _ h1 W H σ _ G R fun v W1 H1 e1 G1 r1=>?_;refine b _ _ _ _ h2 W1 H1 σ _ G1 (R.up e1) fun u W2 H2 e2 G2 r2=>?_;exact p _ _ _ _ _ hh W2 H2 v u Q G2 (r1.up e2) r2 fun w W3 H3 e3 G3 r3=>k w W3 H3 ((e1.trans e2).trans e3) G3 r3
theorem aIs{r:V->Hp->VK->Prop}{h:F1}(p:P1 K r h)(a:SE K ta f):SE K (tUn r ta) (fUn h f):=by
 intro γ M x M' hh W H σ Q G R k;obtain⟨⟨y,M1⟩,h1,hh⟩:=aG hh;refine a _ _ _ _ h1 W H σ _ G R fun v W1 H1 e1 G1 r1=>?_;exact p _ _ _ _ hh W1 H1 v Q G1 r1 fun w W3 H3 e3 G3 r3=>k w W3 H3 (e1.trans e3) G3 r3
theorem zU{x:CD}{b:Bool}(h:asB x=some b):x=.d (.bool b):=by
 cases x with
 |c n=>cases h
 |t n=>cases h
 |f n=>cases h
 |d x=>cases x<;>first|cases h;rfl|cases h
theorem aFO(a:SE K ta f)(b:SE K tb g):SE K (aDs ta tb) (jV f g):=by
 intro γ M x M' hh W H σ Q G R k;obtain⟨⟨y,M1⟩,h1,hh⟩:=aG hh;obtain⟨c,h2,hh⟩:=aG hh;refine a _ _ _ _ h1 W H σ _ G R fun v W1 H1 e1 G1 r1=>?_;have hy:y=_:=zU h2;subst hy;refine⟨c,r1,?_⟩;cases c with
 |true=>rw[A4 rfl];rw[A4 rfl]at hh;exact b _ _ _ _ hh W1 H1 σ Q G1 (R.up e1) fun w W3 H3 e3 G3 r3=>k w W3 H3 (e1.trans e3) G3 r3
 |false=>
  rw[A5 A6];rw[A5 A6]at hh;cases hh;exact k _ W1 H1 e1 G1 rfl
theorem aHn(a:SE K ta f)(b:SE K tb g):SE K (aGY ta tb) (fOr f g):=by
 intro γ M x M' hh W H σ Q G R k;obtain⟨⟨y,M1⟩,h1,hh⟩:=aG hh;obtain⟨c,h2,hh⟩:=aG hh;refine a _ _ _ _ h1 W H σ _ G R fun v W1 H1 e1 G1 r1=>?_;have hy:y=_:=zU h2;subst hy;refine⟨c,r1,?_⟩;cases c with
 |true=>
  rw[A4 rfl];rw[A4 rfl]at hh;cases hh;exact k _ W1 H1 e1 G1 rfl
 |false=>rw[A5 A6];rw[A5 A6]at hh;exact b _ _ _ _ hh W1 H1 σ Q G1 (R.up e1) fun w W3 H3 e3 G3 r3=>k w W3 H3 (e1.trans e3) G3 r3
theorem aET(a:SE K ta f):SE K (aDy ta) (RS f):=by
 intro γ M x M' hh W H σ Q G R k;obtain⟨⟨y,M1⟩,h1,hh⟩:=aG hh;obtain⟨c,h2,hh⟩:=aG hh;refine a _ _ _ _ h1 W H σ _ G R fun v W1 H1 e1 G1 r1=>?_;have hy:y=_:=zU h2;subst hy;cases hh;exact⟨c,r1,k _ W1 H1 e1 G1 rfl⟩
theorem aHG(t:STt K tt ft)(a:SE K ta f)(b:SE K tb g):SE K (tIf tt ta tb) (fIf ft f g):=by
 intro γ M x M' hh W H σ Q G R k;obtain⟨⟨c,M1⟩,h1,hh⟩:=aG hh;refine t _ _ _ _ h1 W H σ _ G R fun W1 H1 e1 G1=>?_;cases c with
 |true=>rw[A4 rfl];rw[A4 rfl]at hh;exact a _ _ _ _ hh W1 H1 σ Q G1 (R.up e1) fun w W3 H3 e3 G3 r3=>k w W3 H3 (e1.trans e3) G3 r3
 |false=>rw[A5 A6];rw[A5 A6]at hh;exact b _ _ _ _ hh W1 H1 σ Q G1 (R.up e1) fun w W3 H3 e3 G3 r3=>k w W3 H3 (e1.trans e3) G3 r3
theorem aAw{r r':R2}{h h':F2}(p:P2 K r h)(p':P2 K r' h')(a:SE K ta f)(b:SE K tb g)(c:SE K tc e):SE K (aAc r r' ta tb tc) (zH h h' f g e):=by
 intro γ M x M' hh W H σ Q G R k;obtain⟨⟨y,M1⟩,h1,hh⟩:=aG hh;obtain⟨⟨z,M2⟩,h2,hh⟩:=aG hh;obtain⟨⟨w,M3⟩,h3,hh⟩:=aG hh;obtain⟨q,h4,hh⟩:=aG hh;refine a _ _ _ _ h1 W H σ _ G R fun v W1 H1 e1 G1 r1=>?_;refine b _ _ _ _ h2 W1 H1 σ _ G1 (R.up e1) fun u W2 H2 e2 G2 r2=>?_;refine p _ _ _ _ _ h3 W2 H2 v u _ G2 (r1.up e2) r2 fun t W3 H3 e3 G3 r3=>?_;have hy:w=_:=zU h4;subst hy;refine⟨q,r3,?_⟩;have e13:=(e1.trans e2).trans e3;cases q with
 |true=>
  rw[A4 rfl];rw[A4 rfl]at hh;obtain⟨⟨m,M4⟩,h5,hh⟩:=aG hh;refine c _ _ _ _ h5 W3 H3 σ _ G3 (R.up e13) fun o W4 H4 e4 G4 r4=>?_;exact p' _ _ _ _ _ hh W4 H4 u o Q G4 (r2.up (e3.trans e4)) r4 fun w W5 H5 e5 G5 r5=>k w W5 H5 ((e13.trans e4).trans e5) G5 r5
 |false=>
  rw[A5 A6];rw[A5 A6]at hh;cases hh;exact k _ W3 H3 e13 G3 rfl
theorem aHN(a:STt K tt ft)(b:STt K uu gt):STt K (tOr tt uu) (gOr ft gt):=by
 intro γ M x M' hh W H σ Q G R k;obtain⟨⟨c,M1⟩,h1,hh⟩:=aG hh;refine a _ _ _ _ h1 W H σ _ G R fun W1 H1 e1 G1=>?_;cases c with
 |true=>rw[A4 rfl];rw[A4 rfl]at hh;cases hh;exact k W1 H1 e1 G1
 |false=>rw[A5 A6];rw[A5 A6]at hh;exact b _ _ _ _ hh W1 H1 σ Q G1 (R.up e1) fun W3 H3 e3 G3=>k W3 H3 (e1.trans e3) G3
theorem aGo(a:STt K tt ft):STt K (aHW tt) (pC ft):=by
 intro γ M x M' hh W H σ Q G R k;obtain⟨⟨c,M1⟩,h1,hh⟩:=aG hh;cases hh;exact a _ _ _ _ h1 W H σ _ G R fun W1 H1 e1 G1=>k W1 H1 e1 G1
theorem aFf(a:SE K ta f):STt K (tB ta) (gB f):=by
 intro γ M x M' hh W H σ Q G R k;obtain⟨⟨y,M1⟩,h1,hh⟩:=aG hh;obtain⟨c,h2,hh⟩:=aG hh;refine a _ _ _ _ h1 W H σ _ G R fun v W1 H1 e1 G1 r1=>?_;have hy:y=_:=zU h2;subst hy;cases hh;exact⟨_,r1,k W1 H1 e1 G1⟩
theorem aCF(a:SE K ta f):STt K (aDi ta) (gB f):=aFf a
theorem aGV:SA K FA aI:=by
 intro γ M x M' hh W H σ Q G R k;cases hh;exact k [] W H (.refl _) G .nil
theorem aCe(a:SE K ta f)(b:SA K tA fa):SA K (iZ ta tA) (aB f fa):=by
 intro γ M x M' hh W H σ Q G R k;obtain⟨⟨y,M1⟩,h1,hh⟩:=aG hh;obtain⟨⟨ys,M2⟩,h2,hh⟩:=aG hh;cases hh;refine a _ _ _ _ h1 W H σ _ G R fun v W1 H1 e1 G1 r1=>?_;exact b _ _ _ _ h2 W1 H1 σ _ G1 (R.up e1) fun vs W2 H2 e2 G2 r2=>k _ W2 H2 (e1.trans e2) G2 (.cons (r1.up e2) r2)
theorem aEd(b:SA K tA fa):SE K (NU tA) (bR fa):=by
 intro γ M x M' hh W H σ Q G R k;obtain⟨⟨ys,M1⟩,h1,hh⟩:=aG hh;obtain⟨ds,h2,hh⟩:=aG hh;by_cases hl:ds.length<=sizeLine
 .rw[A4 hl]at hh;cases hh;refine b _ _ _ _ h1 W H σ _ G R fun vs W1 H1 e1 G1 r1=>?_;have ra:=cX h2 r1;refine⟨by rw[<- ra.length];exact hl,fun p hp=>?_⟩;obtain⟨e2,G2⟩:=G1.lay (o:=.tup vs) hp;exact k _ _ _ (e1.trans e2) G2 ⟨p,vs,rfl,SqT.of aP,aK.same e2.ff _ _ ra⟩
 .rw[A5 hl]at hh;cases hh
theorem aGU(b:SA K tA fa):SE K (aGH tA) (nH fa):=by
 intro γ M x M' hh W H σ Q G R k;obtain⟨⟨ys,M1⟩,h1,hh⟩:=aG hh;obtain⟨ds,h2,hh⟩:=aG hh;by_cases hl:ds.length<=sizeLine
 .rw[A4 hl]at hh;cases hh;refine b _ _ _ _ h1 W H σ _ G R fun vs W1 H1 e1 G1 r1=>?_;have ra:=cX h2 r1;refine⟨by rw[<- ra.length];exact hl,fun p hp=>?_⟩;obtain⟨e2,G2⟩:=G1.lay (o:=.lst vs) hp;exact k _ _ _ (e1.trans e2) G2 ⟨p,vs,rfl,SqL.of aP,aK.same e2.ff _ _ ra⟩
 .rw[A5 hl]at hh;cases hh
theorem Good.newV(g:Good K W M H){p:Addr}:bP K (W.more p) (.c M.length) (.ref p):=by
 refine⟨?_,?_⟩
 .show M.length<W.n+1;rw[g.n];exact F5 _
 .show V.ref p=.ref (if M.length=W.n then p else W.α M.length);rw[A4 g.n.symm]
theorem aFi(b:SA K tA fa):SE K (aGH tA) (uE fa):=by
 intro γ M x M' hh W H σ Q G R k;obtain⟨⟨ys,M1⟩,h1,hh⟩:=aG hh;by_cases hl:ys.length<=sizeLine
 .have hh:(if ys.length<=sizeLine then some (CD.c M1.length,M1++[Cell.lst ys])else none)=some (x,M'):=hh;rw[A4 hl]at hh;cases hh;refine b _ _ _ _ h1 W H σ _ G R fun vs W1 H1 e1 G1 r1=>?_;refine⟨by rw[<- Paired.len r1];exact hl,fun p hp=>?_⟩;exact k _ _ _ (e1.trans (W1.ext_more p)) (G1.new hp (c:=.lst ys) (o:=.lst vs) r1) G1.newV
 .have hh:(if ys.length<=sizeLine then some (CD.c M1.length,M1++[Cell.lst ys])else none)=some (x,M'):=hh;rw[A5 hl]at hh;cases hh
theorem aCc{h:FN}(b:SA K tA fa):SE K (ZT (spM K h) [] E0 tA) (aM h fa):=by
 intro γ M x M' hh W H σ Q G R k;obtain⟨⟨ys,M1⟩,h1,hh⟩:=aG hh;refine b _ _ _ _ h1 W H σ _ G R fun vs W1 H1 e1 G1 r1=>?_;rw[C6];exact⟨ys,M1,W1,x,M',G1,r1,hh,fun v W2 H2 e2 G2 r2=>k v W2 H2 (e1.trans e2) G2 r2⟩
theorem aDK{r:List V->Hp->VK->Prop}{h:FN}(p:PN K r h)(b:SA K tA fa):SE K (tCB r tA) (aM h fa):=by
 intro γ M x M' hh W H σ Q G R k;obtain⟨⟨ys,M1⟩,h1,hh⟩:=aG hh;refine b _ _ _ _ h1 W H σ _ G R fun vs W1 H1 e1 G1 r1=>?_;exact p _ _ _ _ hh W1 H1 vs Q G1 r1 fun v W2 H2 e2 G2 r2=>k v W2 H2 (e1.trans e2) G2 r2
end
section
variable{K:Fg}{ta tb tc:TE}{f g e:EF}{tt uu:TT}{ft gt:TF}{tA:TA}{fa:AF}{t u:TS}{p q:SF}{tg:TG}{hg:GF}{tgs:TGs}{hgs:GsF}
theorem aCU:SS K aDP cZ:=by
 intro γ M o M' hh W H σ D G R k;cases hh;exact k W H (.refl _) G σ R
theorem aEA(a:SS K t p)(b:SS K u q):SS K (aFR t u) (bK p q):=by
 intro γ M o M' hh W H σ D G R k;obtain⟨⟨o1,M1⟩,h1,hh⟩:=aG hh;refine a _ _ _ _ h1 W H σ _ G R fun W1 H1 e1 G1=>?_;cases o1 with
 |nx γ1=>
  intro σ1 R1;exact b _ _ _ _ hh W1 H1 σ1 D G1 R1 fun W2 H2 e2 G2=>k W2 H2 (e1.trans e2) G2
 |bk γ1=>cases hh;exact k W1 H1 e1 G1
 |ct γ1=>cases hh;exact k W1 H1 e1 G1
 |rt x=>cases hh;exact k W1 H1 e1 G1
theorem aBV(a:SE K ta f):SS K (aAh ta) (AR f):=by
 intro γ M o M' hh W H σ D G R k;obtain⟨⟨y,M1⟩,h1,hh⟩:=aG hh;cases hh;exact a _ _ _ _ h1 W H σ _ G R fun v W1 H1 e1 G1 r1=>k W1 H1 e1 G1 σ (R.up e1)
theorem aFq(a:SE K ta f):SS K (aGn ta) (cG f):=by
 intro γ M o M' hh W H σ D G R k;obtain⟨⟨y,M1⟩,h1,hh⟩:=aG hh;cases hh;exact a _ _ _ _ h1 W H σ _ G R fun v W1 H1 e1 G1 r1=>k W1 H1 e1 G1 v r1
theorem aIm(c:STt K tt ft)(a:SS K t p)(b:SS K u q):SS K (aEY tt t u) (sIf ft p q):=by
 intro γ M o M' hh W H σ D G R k;obtain⟨⟨c1,M1⟩,h1,hh⟩:=aG hh;refine c _ _ _ _ h1 W H σ _ G R fun W1 H1 e1 G1=>?_;cases c1 with
 |true=>rw[A4 rfl];rw[A4 rfl]at hh;exact a _ _ _ _ hh W1 H1 σ D G1 (R.up e1) fun W3 H3 e3 G3=>k W3 H3 (e1.trans e3) G3
 |false=>rw[A5 A6];rw[A5 A6]at hh;exact b _ _ _ _ hh W1 H1 σ D G1 (R.up e1) fun W3 H3 e3 G3=>k W3 H3 (e1.trans e3) G3
theorem FJ(a:SE K ta f)(b:SG K tg hg):SS K (VC ta tg) (cN f hg):=by
 intro γ M o M' hh W H σ D G R k;obtain⟨⟨y,M1⟩,h1,hh⟩:=aG hh;obtain⟨⟨γ1,M2⟩,h2,hh⟩:=aG hh;cases hh;refine a _ _ _ _ h1 W H σ _ G R fun v W1 H1 e1 G1 r1=>?_;exact b _ _ _ _ _ h2 W1 H1 σ v _ G1 (R.up e1) r1 fun σ' W2 H2 e2 G2 R2=>k W2 H2 (e1.trans e2) G2 σ' R2
theorem cF.set{σ:St}{x:CD}{v:V}(R:cF K W γ σ)(i:Nat)(r:bP K W x v):cF K W (γ.set i (some x)) (σ.set i (some v)):=Paired.set (R:=IA K W) (show IA K W (some x) (some v)from r) i R
theorem tQ{i:Nat}:SG K (IL i) (hName i):=by
 intro x γ M γ' M' hh W H σ v Q G R r k;cases hh;exact k _ W H (.refl _) G (cF.set R i r)
theorem aCi:SGs K aIa oR:=by
 intro xs γ M γ' M' hh W H σ vs Q G R r k;cases r with
 |nil=>cases hh;exact⟨rfl,k σ W H (.refl _) G R⟩
 |cons _ _=>cases hh
theorem ZE(a:SG K tg hg)(b:SGs K tgs hgs):SGs K (aDI tg tgs) (bZ hg hgs):=by
 intro xs γ M γ' M' hh W H σ vs Q G R r k;cases r with
 |nil=>cases hh
 |@cons x v xs vs r1 r2=>
  obtain⟨⟨γ1,M1⟩,h1,hh⟩:=aG (show(hg x γ M).bind _=_ from hh);refine⟨v,vs,rfl,a _ _ _ _ _ h1 W H σ v _ G R r1 fun σ1 W1 H1 e1 G1 R1=>?_⟩;exact b _ _ _ _ _ hh W1 H1 σ1 vs _ G1 R1 (bM.up r2 e1) fun σ2 W2 H2 e2 G2 R2=>k σ2 W2 H2 (e1.trans e2) G2 R2
theorem aGw{n:Nat}(b:SGs K tgs hgs):SG K (UW K n tgs) (sJ n hgs):=by
 intro x γ M γ' M' hh W H σ v Q G R r k;cases x with
 |c _=>cases hh
 |f _=>cases hh
 |t xs=>
  have hh:(if xs.length=n then hgs (xs.map cdA) γ M else none)=some (γ',M'):=hh;by_cases hl:xs.length=n
  .rw[A4 hl]at hh;obtain⟨a,vs,rfl,h2,h3⟩:=r;have hp:=PK h3;exact⟨a,vs,rfl,SqT.of (G.fh _ _ h2),by rw[<- hl];simpa using(Paired.len h3).symm,b _ _ _ _ _ hh W H σ vs Q G R hp k⟩
  .rw[A5 hl]at hh;cases hh
 |d x=>
  cases x with
  |tuple ds=>
   have hh:(if ds.length=n then hgs (ds.map .d) γ M else none)=some (γ',M'):=hh;by_cases hl:ds.length=n
   .rw[A4 hl]at hh;obtain⟨a,vs,rfl,h2,h3⟩:=(show ∃a vs,v=.ref a/\SqT K W.F a vs/\aK K W.F ds vs from r);exact⟨a,vs,rfl,G.fh.seqT h2,by rw[<- h3.length];exact hl,b _ _ _ _ _ hh W H σ vs Q G R (jQ h3) k⟩
   .rw[A5 hl]at hh;cases hh
  |_=>cases hh
noncomputable def P3(K:Fg)(r:V->V->V->Hp->(Hp->Prop)->Prop)(f:F3):Prop:=∀x y z M M',f x y z M=some M'->∀(W:Wd)(H:Hp)(v u w:V)(Q:Hp->Prop),Good K W M H->bP K W x v->bP K W y u->bP K W z w->(∀W' H',W.Ext W'->Good K W' M' H'->Q H')->r v u w H Q
theorem aEi{r:aBS}{s:F3}(p:P3 K r s)(a:SE K ta f)(b:SE K tb g):SG K (aHF ta tb r) (hSub f g s):=by
 intro x γ M γ' M' hh W H σ v Q G R rv k;obtain⟨⟨o,M1⟩,h1,hh⟩:=aG hh;obtain⟨⟨i,M2⟩,h2,hh⟩:=aG hh;obtain⟨M3,h3,hh⟩:=aG hh;cases hh;refine a _ _ _ _ h1 W H σ _ G R fun v1 W1 H1 e1 G1 r1=>?_;refine b _ _ _ _ h2 W1 H1 σ _ G1 (R.up e1) fun v2 W2 H2 e2 G2 r2=>?_;exact p _ _ _ _ _ h3 W2 H2 v1 v2 v _ G2 (r1.up e2) r2 (rv.up (e1.trans e2)) fun W3 H3 e3 G3=>k σ W3 H3 ((e1.trans e2).trans e3) G3 (R.up ((e1.trans e2).trans e3))
theorem aEL{i j:Nat}(b:SA K tA fa):SS K (aIb i j tA) (HS i j fa):=by
 intro γ M o M' hh W H σ D G R k;obtain⟨⟨ys,M1⟩,h1,hh⟩:=aG hh;refine b _ _ _ _ h1 W H σ _ G R fun vs W1 H1 e1 G1 r1=>?_;rcases r1 with _|⟨a1,_|⟨a2,_|_⟩⟩
 .cases hh
 .cases hh
 .cases hh;exact⟨_,_,rfl,k W1 H1 e1 G1 _ (cF.set (cF.set (R.up e1) i a1) j a2)⟩
 .cases hh
noncomputable def WR(K:Fg)(J:It)(xs:List CD)(W:Wd):Prop:=∀W' M' H',W.Ext W'->Good K W' M' H'->
 (∀i x,xs[i]?=some x->J.go i H'/\∀y H'',J.yld i H' y H''->∃W'',W'.Ext W''/\Good K W'' M' H''/\bP K W'' x y)/\J.stop xs.length H'
noncomputable def SI(K:Fg)(wi:TI)(f:AF):Prop:=∀γ M xs M',f γ M=some (xs,M')->∀(W:Wd)(H:Hp)(σ:St)(R:It->Hp->Prop),Good K W M H->cF K W γ σ->(∀J W' H',W.Ext W'->Good K W' M' H'->WR K J xs W'->R J H')->wi σ H R
noncomputable def dA(f:EF):AF:=fun γ M=>(f γ M).bind fun r=>match r.1 with
 |.d x=>(bJ x).bind fun ds=>some (ds.map .d,r.2)
 |_=>none
theorem aGp(a:SE K ta f):SI K (aFZ K ta) (dA f):=by
 intro γ M xs M' hh W H σ R G Rs k;obtain⟨⟨y,M1⟩,h1,hh⟩:=aG hh;cases y with
 |c _=>cases hh
 |t _=>cases hh
 |f _=>cases hh
 |d y=>
  obtain⟨ds,h2,hh⟩:=aG (show(bJ y).bind _=_ from hh);cases hh;refine a _ _ _ _ h1 W H σ _ G Rs fun v W1 H1 e1 G1 r1=>?_;obtain⟨p,vs,rfl,hs,hr⟩:=mU (show Rep K W1.F y v from r1) h2;refine⟨p,rfl,?_⟩
  have item:∀(i:Nat)(x:CD)(W2:Wd),W1.Ext W2->(ds.map CD.d)[i]?=some x->∃u,vs[i]?=some u/\bP K W2 x u:=fun i x W2 e2 hx=>by
   obtain⟨u,hu,ru⟩:=Paired.get (jQ hr) hx;exact⟨u,hu,ru.up e2⟩
  have hlen:(ds.map CD.d).length=vs.length:=by rw[A9];exact hr.length
  rcases hs with hs|hs
  .refine .inl ⟨vs,G1.fh.seq hs,k _ W1 H1 e1 G1 fun W2 M2 H2 e2 G2=>?_⟩;have hs2:SqL K H2 p vs:=G2.fh.seq (e2.ff.seq hs);refine⟨fun i x hx=>?_,?_⟩
   .obtain⟨u,hu,ru⟩:=item i x W2 e2 hx;refine⟨⟨vs,u,hs2,hu⟩,fun y' H'' hy=>⟨W2,.refl _,by rw[hy.1];exact G2,?_⟩⟩;have:=hy.2 vs hs2;rw[hu]at this;cases this;exact ru
   .rw[hlen];exact⟨vs,hs2,A7 _⟩
  .refine .inr ⟨vs,G1.fh.seqT hs,k _ W1 H1 e1 G1 fun W2 M2 H2 e2 G2=>?_⟩;have hs2:SqT K H2 p vs:=G2.fh.seqT (e2.ff.seqT hs);refine⟨fun i x hx=>?_,?_⟩
   .obtain⟨u,hu,ru⟩:=item i x W2 e2 hx;refine⟨⟨vs,u,hs2,hu⟩,fun y' H'' hy=>⟨W2,.refl _,by rw[hy.1];exact G2,?_⟩⟩;have:=hy.2 vs hs2;rw[hu]at this;cases this;exact ru
   .rw[hlen];exact⟨vs,hs2,A7 _⟩
noncomputable def kP(lo:Int)(n:Nat):List CD:=(List.range n).map fun i=>.d (.int (lo+(i:Nat)))
theorem KN{lo:Int}{n i:Nat}{x:CD}(h:(kP lo n)[i]?=some x):i<n/\x=.d (.int (lo+i)):=by
 unfold kP at h;rw[D6]at h;by_cases hi:i<n
 .rw[List.getElem?_range hi]at h;exact⟨hi,(D2 h).symm⟩
 .rw[List.getElem?_eq_none_iff.mpr (by simpa using hi)]at h;cases h
noncomputable def iI(i:Int):Bool:=decide (-(2 ^ 62)<=i)&&decide (i<2 ^ 62)
noncomputable def kY(f:AF):AF:=fun γ M=>(f γ M).bind fun r=>match r.1 with
 |[.d (.int j)]=>if iI j=true then some (kP 0 j.toNat,r.2)else none
 |_=>none
theorem RX{lo:Int}{n:Nat}:WR K (Itr lo n) (kP lo n) W:=fun W' M' H' e G=>
 ⟨fun i x hx=>⟨(KN hx).1,fun y H'' hy=>⟨W',.refl _,by rw[hy.1];exact G,by rw[(KN hx).2];exact hy.2⟩⟩,by show n<=_;simp[kP]⟩
theorem BL{i:Int}(h:iI i=true):-(2 ^ 62)<=i/\i<2 ^ 62:=by
 unfold iI at h;rw[B3]at h;exact⟨C2 h.1,C2 h.2⟩
theorem aCY(b:SA K tA fa):SI K (aDD tA) (kY fa):=by
 intro γ M xs M' hh W H σ R G Rs k;obtain⟨⟨ys,M1⟩,h1,hh⟩:=aG hh;refine b _ _ _ _ h1 W H σ _ G Rs fun vs W1 H1 e1 G1 r1=>?_;revert hh;dsimp only;split
 .rename_i j;intro hh;by_cases hs:iI j=true
  .rw[A4 hs]at hh;cases hh;cases r1 with
   |cons r r'=>
    cases r';exact⟨j,by rw[show _=V.int j from r],(BL hs).1,(BL hs).2,k _ W1 H1 e1 G1 RX⟩
  .rw[A5 hs]at hh;cases hh
 .intro hh;cases hh
theorem aDV{wi:TI}(i:SI K wi fa)(a:SG K tg hg)(b:SS K t p):SS K (aGS wi tg t) (xK fa hg p):=by
 intro γ M o M' hh W H σ D G R k;obtain⟨⟨xs,M1⟩,h1,hh⟩:=aG hh;have hh:pX hg p xs γ M1=some (o,M'):=hh;refine i _ _ _ _ h1 W H σ _ G R fun J W1 H1 e1 G1 gv=>?_;refine⟨fun j m σ' H'=>∃γ' M2 W2,j<=xs.length/\m=xs.length-j/\W1.Ext W2/\Good K W2 M2 H'/\cF K W2 γ' σ'/\pX hg p (xs.drop j) γ' M2=some (o,M'),⟨_,γ,M1,W1,E3 _,rfl,.refl _,G1,R.up e1,hh⟩,?_⟩;rintro j m σ' H' ⟨γ',M2,W2,hj,rfl,e2,G2,R2,h2⟩;obtain⟨gv1,gv2⟩:=gv W2 M2 H' e2 G2;by_cases hlt:j<xs.length
 .obtain⟨go,yl⟩:=gv1 j xs[j] (B1 hlt);rw[J1 hlt]at h2;refine .inr ⟨go,fun σ3 H3=>∃γ3 M3 W3,W2.Ext W3/\Good K W3 M3 H3/\cF K W3 γ3 σ3/\pX hg p (xs.drop (j+1)) γ3 M3=some (o,M'),?_,fun y H3 hy=>?_⟩
  .rintro σ3 H3 ⟨γ3,M3,W3,e3,G3,R3,h3⟩;exact⟨_,by omega,γ3,M3,W3,hlt,rfl,e2.trans e3,G3,R3,h3⟩
  .obtain⟨W8,e8,G8,ry⟩:=yl y H3 hy;obtain⟨⟨γ4,M4⟩,h4,h2⟩:=aG (show(hg xs[j] γ' M2).bind _=_ from h2);obtain⟨⟨o5,M5⟩,h5,h2⟩:=aG h2;refine a _ _ _ _ _ h4 W8 _ σ' y _ G8 (R2.up e8) ry fun σ4 W4 H4 e4 G4 R4=>?_;refine b _ _ _ _ h5 W4 H4 σ4 _ G4 R4 fun W5 H5 e5 G5=>?_;have e25:=(e8.trans e4).trans e5;cases o5 with
   |nx γ5=>exact fun σ5 R5=>⟨γ5,M5,W5,e25,G5,R5,h2⟩
   |ct γ5=>exact fun σ5 R5=>⟨γ5,M5,W5,e25,G5,R5,h2⟩
   |bk γ5=>cases h2;exact k W5 H5 ((e1.trans e2).trans e25) G5
   |rt x=>cases h2;exact k W5 H5 ((e1.trans e2).trans e25) G5
 .have e:j=xs.length:=by omega
  subst e;rw[S2]at h2;cases h2;exact .inl ⟨gv2,k W2 H' (e1.trans e2) G2 σ' R2⟩
theorem UJ(c:STt K tt ft)(b:SS K t p):SS K (XJ tt t) (sY ft p):=by
 intro γ M o M' hh W H σ D G R k;unfold sY at hh;by_cases hex:∃n,(fP ft p n γ M).isSome=true
 .rw[dif_pos hex]at hh;generalize hex.choose=n at hh;refine⟨fun m σ' H'=>∃γ' M2 W2,W.Ext W2/\Good K W2 M2 H'/\cF K W2 γ' σ'/\fP ft p m γ' M2=some (o,M'),⟨n,γ,M,W,.refl _,G,R,hh⟩,?_⟩;rintro m σ' H' ⟨γ',M2,W2,e2,G2,R2,h2⟩;cases m with
  |zero=>cases h2
  |succ m=>
   obtain⟨⟨c3,M3⟩,h3,h2⟩:=aG (show(ft γ' M2).bind _=_ from h2);refine c _ _ _ _ h3 W2 H' σ' _ G2 R2 fun W3 H3 e3 G3=>?_;cases c3 with
   |true=>
    rw[A4 rfl];rw[A4 rfl]at h2;obtain⟨⟨o4,M4⟩,h4,h2⟩:=aG h2;refine⟨fun σ4 H4=>∃γ4 M4 W4,W2.Ext W4/\Good K W4 M4 H4/\cF K W4 γ4 σ4/\fP ft p m γ4 M4=some (o,M'),?_,?_⟩
    .rintro σ4 H4 ⟨γ4,M4,W4,e4,G4,R4,h4⟩;exact⟨m,F5 _,γ4,M4,W4,e2.trans e4,G4,R4,h4⟩
    .refine b _ _ _ _ h4 W3 H3 σ' _ G3 (R2.up e3) fun W5 H5 e5 G5=>?_;have e25:=e3.trans e5;cases o4 with
     |nx γ5=>exact fun σ5 R5=>⟨γ5,M4,W5,e25,G5,R5,h2⟩
     |ct γ5=>exact fun σ5 R5=>⟨γ5,M4,W5,e25,G5,R5,h2⟩
     |bk γ5=>cases h2;exact k W5 H5 (e2.trans e25) G5
     |rt x=>cases h2;exact k W5 H5 (e2.trans e25) G5
   |false=>
    rw[A5 A6];rw[A5 A6]at h2;cases h2;exact k W3 H3 (e2.trans e3) G3 σ' (R2.up e3)
 .rw[dif_neg hex]at hh;cases hh
theorem lE{c:TF}{b:SF}:∀{n m:Nat}{γ:Ga}{M:Sto}{r:Out×Sto},fP c b n γ M=some r->n<=m->fP c b m γ M=some r
 |0,_,_,_,_=>fun h _=>by cases h
 |n+1,0,_,_,_=>fun _ h=>by omega
 |n+1,m+1,γ,M,r=>fun h hl=>by
  obtain⟨⟨b1,M1⟩,h1,h⟩:=aG (show(c γ M).bind _=_ from h);show(c γ M).bind _=_;rw[h1];show(if b1=true then _ else _)=_;cases b1 with
  |false=>exact h
  |true=>
   rw[A4 rfl];rw[A4 rfl]at h;obtain⟨⟨o,M2⟩,h2,h⟩:=aG h;rw[h2];cases o with
   |nx γ'=>exact lE (n:=n) (m:=m) h (by omega)
   |ct γ'=>exact lE (n:=n) (m:=m) h (by omega)
   |bk γ'=>exact h
   |rt x=>exact h
theorem IB{c:TF}{b:SF}{n:Nat}{r:Out×Sto}(h:fP c b n γ M=some r):sY c b γ M=some r:=by
 unfold sY;have hex:∃n,(fP c b n γ M).isSome=true:=⟨n,by rw[h];rfl⟩;rw[dif_pos hex];have hs:=hex.choose_spec;cases q:fP c b hex.choose γ M with
 |none=>rw[q]at hs;cases hs
 |some r'=>
  rcases Nat.le_total n hex.choose with z|z
  .rw[lE h z]at q;exact q.symm▸rfl
  .rw[lE q z]at h;exact h
theorem AV{W:Wd}{γ:Ga}{σ:St}(R:cF K W γ σ):∀cap:List (Option Nat),cF K W (qN cap γ) (xO cap σ)
 |[]=>.nil
 |none::r=>.cons True.intro (AV R r)
 |some j::r=>by
  refine .cons ?_ (AV R r);show IA K W ((γ[j]?).join) ((σ[j]?).join);cases e:γ[j]? with
  |none=>
   have:σ[j]?=none:=by
    have hl:=Paired.len R;exact List.getElem?_eq_none_iff.mpr (by have:=List.getElem?_eq_none_iff.mp e;omega)
   rw[this];exact True.intro
  |some x=>
   obtain⟨y,hy,r'⟩:=Paired.get R e;rw[hy];exact r'
theorem FW{g:GF}{c:TF}{e:EF}:∀{xs:List CD}{γ:Ga}{M:Sto}{ys:List CD}{M':Sto},lcF g c e xs γ M=some (ys,M')->ys.length<=xs.length
 |[],_,_,_,_=>fun h=>by cases h;exact E3 _
 |x::xs,γ,M,ys,M'=>fun h=>by
  obtain⟨⟨γ1,M1⟩,h1,h⟩:=aG (show(g x γ M).bind _=_ from h);obtain⟨⟨b,M2⟩,h2,h⟩:=aG h;cases b with
  |true=>
   rw[A4 rfl]at h;obtain⟨⟨y,M3⟩,h3,h⟩:=aG h;obtain⟨⟨zs,M4⟩,h4,h⟩:=aG h;cases h;have:=FW h4;simp only[List.length_cons];omega
  |false=>
   rw[A5 A6]at h;have:=FW h;simp only[List.length_cons];omega
theorem XB{wi:TI}{cap:List (Option Nat)}{te:TE}{fe:EF}(i:SI K wi fa)(a:SG K tg hg)(c:STt K tt ft)(b:SE K te fe){xs:List CD}(hh:mS cap fa hg ft fe γ M=some (xs,M'))
 {W:Wd} {H:Hp} {σ:St} {Q:VK} (G:Good K W M H) (R:cF K W γ σ) (k:∀vs W' H',W.Ext W'->Good K W' M' H'->bM K W' xs vs->∀p,H' p=none->Q (.ref p) (upd H' p (.lst vs))):tLc cap wi tg tt te σ H Q:=by
 obtain⟨⟨ys,M1⟩,h1,hh⟩:=aG hh;have hh:(if ys.length<=sizeLine then lcF hg ft fe ys (qN cap γ) M1 else none)=some (xs,M'):=hh;by_cases hl:ys.length<=sizeLine
 .rw[A4 hl]at hh;refine i _ _ _ _ h1 W H σ _ G R fun J W1 H1 e1 G1 gv=>?_
  refine⟨fun j m acc σ' H'=>∃γ' M2 W2 pre suf,j<=ys.length/\m=ys.length-j/\acc.length<=j/\W1.Ext W2/\Good K W2 M2 H'/\cF K W2 γ' σ'/\bM K W2 pre acc/\pre++suf=xs/\lcF hg ft fe (ys.drop j) γ' M2=some (suf,M'),
   ⟨_,qN cap γ,M1,W1,[],xs,E3 _,rfl,E3 _,.refl _,G1,AV (R.up e1) cap,.nil,rfl,hh⟩,?_⟩
  rintro j m acc σ' H' ⟨γ',M2,W2,pre,suf,hj,rfl,hacc,e2,G2,R2,rp,hx,h2⟩;obtain⟨gv1,gv2⟩:=gv W2 M2 H' e2 G2;by_cases hlt:j<ys.length
  .obtain⟨go,yl⟩:=gv1 j ys[j] (B1 hlt);rw[J1 hlt]at h2;refine .inr ⟨go,by omega,fun acc3 σ3 H3=>∃γ3 M3 W3 pre3 suf3,acc3.length<=j+1/\W2.Ext W3/\Good K W3 M3 H3/\cF K W3 γ3 σ3/\bM K W3 pre3 acc3/\pre3++suf3=xs/\lcF hg ft fe (ys.drop (j+1)) γ3 M3=some (suf3,M'),?_,fun y H3 hy=>?_⟩
   .rintro acc3 σ3 H3 ⟨γ3,M3,W3,pre3,suf3,hl3,e3,G3,R3,rp3,hx3,h3⟩;exact⟨_,by omega,γ3,M3,W3,pre3,suf3,hlt,rfl,hl3,e2.trans e3,G3,R3,rp3,hx3,h3⟩
   .obtain⟨W8,e8,G8,ry⟩:=yl y H3 hy;obtain⟨⟨γ4,M4⟩,h4,h2⟩:=aG (show(hg ys[j] γ' M2).bind _=_ from h2);obtain⟨⟨b5,M5⟩,h5,h2⟩:=aG h2;refine a _ _ _ _ _ h4 W8 _ σ' y _ G8 (R2.up e8) ry fun σ4 W4 H4 e4 G4 R4=>?_;refine c _ _ _ _ h5 W4 H4 σ4 _ G4 R4 fun W5 H5 e5 G5=>?_;have e25:=(e8.trans e4).trans e5;cases b5 with
    |true=>
     rw[A4 rfl]at h2;obtain⟨⟨z,M6⟩,h6,h2⟩:=aG h2;obtain⟨⟨zs,M7⟩,h7,h2⟩:=aG h2;cases h2;refine .inl ⟨rfl,b _ _ _ _ h6 W5 H5 σ4 _ G5 (R4.up e5) fun v W6 H6 e6 G6 r6=>?_⟩;refine⟨γ4,M6,W6,pre++[z],zs,by rw[B2];simp only[List.length_singleton];omega,e25.trans e6,G6,R4.up (e5.trans e6),Paired.app (bM.up rp (e25.trans e6)) (.cons r6 .nil),by rw[<- hx,C1];rfl,h7⟩
    |false=>
     rw[A5 A6]at h2;exact .inr ⟨rfl,γ4,M5,W5,pre,suf,by omega,e25,G5,R4.up e5,bM.up rp e25,hx,h2⟩
  .have e:j=ys.length:=by omega
   subst e;rw[S2]at h2;cases h2;rw[C6]at hx;subst hx;exact .inl ⟨gv2,k acc W2 H' (e1.trans e2) G2 rp⟩
 .rw[A5 hl]at hh;cases hh
theorem RM{cap:List (Option Nat)}{fa:AF}{hg:GF}{ft:TF}{fe:EF}{xs:List CD}(hh:mS cap fa hg ft fe γ M=some (xs,M')):xs.length<=sizeLine:=by
 obtain⟨⟨ys,M1⟩,h1,hh⟩:=aG hh;have hh:(if ys.length<=sizeLine then lcF hg ft fe ys (qN cap γ) M1 else none)=some (xs,M'):=hh;by_cases hl:ys.length<=sizeLine
 .rw[A4 hl]at hh;exact D3 (FW hh) hl
 .rw[A5 hl]at hh;cases hh
theorem aDh{wi:TI}{cap:List (Option Nat)}{te:TE}{fe:EF}(i:SI K wi fa)(a:SG K tg hg)(c:STt K tt ft)(b:SE K te fe):SE K (tLc cap wi tg tt te) (fLc cap fa hg ft fe):=by
 intro γ M x M' hh W H σ Q G R k;obtain⟨⟨ys,M1⟩,h1,hh⟩:=aG hh;obtain⟨ds,h2,hh⟩:=aG hh;by_cases hl:ds.length<=sizeLine
 .rw[A4 hl]at hh;cases hh;refine XB i a c b h1 G R fun vs W1 H1 e1 G1 r1 p hp=>?_;obtain⟨e2,G2⟩:=G1.lay (o:=.lst vs) hp;exact k _ _ _ (e1.trans e2) G2 ⟨p,vs,rfl,SqL.of aP,aK.same e2.ff _ _ (cX h2 r1)⟩
 .rw[A5 hl]at hh;cases hh
theorem aGk{wi:TI}{cap:List (Option Nat)}{te:TE}{fe:EF}(i:SI K wi fa)(a:SG K tg hg)(c:STt K tt ft)(b:SE K te fe):SE K (tLc cap wi tg tt te) (aAW cap fa hg ft fe):=by
 intro γ M x M' hh W H σ Q G R k;obtain⟨⟨ys,M1⟩,h1,hh⟩:=aG hh;have hh:(if ys.length<=sizeLine then some (CD.c M1.length,M1++[Cell.lst ys])else none)=some (x,M'):=hh;rw[A4 (RM h1)]at hh;cases hh;refine XB i a c b h1 G R fun vs W1 H1 e1 G1 r1 p hp=>?_;exact k _ _ _ (e1.trans (W1.ext_more p)) (G1.new hp (c:=.lst ys) (o:=.lst vs) r1) G1.newV
theorem aEx:STt K aIz rN:=by
 intro γ M x M' hh W H σ Q G R k;cases hh;exact k W H (.refl _) G
theorem bM.some{W:Wd}:∀{xs:List CD}{vs:List V},bM K W xs vs->cF K W (xs.map some) (vs.map some)
 |_,_,.nil=>.nil
 |_,_,.cons r t=>.cons r (bM.some t)
theorem pU{W:Wd}:∀n:Nat,cF K W (List.replicate n none) (List.replicate n none)
 |0=>.nil
 |n+1=>.cons True.intro (pU n)
theorem Def.okM{P:Program}{w:World}{mg:Str->Option Value}{base:Heap}{x:Str}{st:Stmt}{N ps:List Str}{k:Nat}{b:SF}{q:Bool}(D:Def K mg x st)(S:aS N ps (aH st))
 (hb:∀(kV doc pm:Value)(an:Option Addr)(cdv ct:Value)(us:List Value),us.length=ps.length->bindArgs (PySem.W.fnOf x x (cR st) (bF st) (aH st) .none kV doc pm an cdv ct) ⟨us,[]⟩=pure (ps.zip us))
 (hbody:∀(f:Addr)(cdv:Value)(A:Around)(outer:List Env)(s:Shared)(H:Hp)(E:XK),bS k (A.deeper (envOfC x (aH st) s.heap.objs.size f cdv)) q->
  ∃t,PSs (kR CX0 P w K mg base N x (aH st) f cdv A outer s H E q).nox (bF st) t/\SS K t b):Callee P w K mg base (k+1) x ps (spM K (fnF ps.length N.length b)) q:=by
 have len:∀vs H Q E,spM K (fnF ps.length N.length b) vs H Q E->vs.length=ps.length:=fun vs H Q E h=>by
  obtain⟨xs,M,W,y,M',G,R,hf,_⟩:=h;by_cases hl:xs.length=ps.length
  .rw[<- Paired.len R];exact hl
  .unfold fnF at hf;rw[A5 hl]at hf;cases hf
 refine D.ok S hb len fun f cdv A outer s H vs Q E hr h=>?_;obtain⟨t,hP,hS⟩:=hbody f cdv A outer s H E hr;refine⟨t,hP,?_⟩;obtain⟨xs,M,W,y,M',G,R,hf,k⟩:=h;by_cases hl:xs.length=ps.length
 .unfold fnF at hf;rw[A4 hl]at hf;obtain⟨⟨o,M1⟩,h1,hf⟩:=aG hf
  have hR:cF K W (xs.map some++List.replicate (N.length-xs.length) none) (start N vs):=by
   unfold start;rw[<- Paired.len R];exact Paired.app (bM.some R) (pU _)
  refine hS _ _ _ _ h1 W H _ _ G hR fun W1 H1 e1 G1=>?_;cases o with
  |rt x=>cases hf;exact fun v r=>k v W1 H1 e1 G1 r
  |nx γ=>cases hf;exact fun σ r=>k .non W1 H1 e1 G1 rfl
  |bk γ=>cases hf
  |ct γ=>cases hf
 .unfold fnF at hf;rw[A5 hl]at hf;cases hf
end
noncomputable def xG(h h':F2):F2:=fun x y M=>match h x y M with
 |some r=>some r
 |none=>h' x y M
noncomputable def pI(g:Int->Int->Option PyData):F2:=fun x y M=>match x,y with
 |.d (.int i),.d (.int j)=>(g i j).bind fun z=>some (.d z,M)
 |_,_=>none
theorem XN{g:Int->Int->Option PyData}{x y:CD}{z:CD}(h:pI g x y M=some (z,M')):∃i j w,x=.d (.int i)/\y=.d (.int j)/\g i j=some w/\z=.d w/\M'=M:=by
 unfold pI at h;split at h
 .rename_i i j;obtain⟨w,h1,h⟩:=aG h;cases h;exact⟨i,j,w,rfl,rfl,h1,rfl,rfl⟩
 .cases h
section
variable{X:Cx}{K:Fg}
theorem aDe{g:Int->Int->Int}:P2 K (rI0 fun i j=>.int (g i j)) (pI fun i j=>some (.int (g i j))):=by
 intro x y M z M' h W H v u Q G rx ry k;obtain⟨i,j,w,rfl,rfl,hw,rfl,rfl⟩:=XN h;cases hw;exact⟨i,j,rx,ry,k _ W H (.refl _) G rfl⟩
theorem OP{g:Int->Int->Bool}:P2 K (rI0 fun i j=>.bl (g i j)) (pI fun i j=>some (.bool (g i j))):=by
 intro x y M z M' h W H v u Q G rx ry k;obtain⟨i,j,w,rfl,rfl,hw,rfl,rfl⟩:=XN h;cases hw;exact⟨i,j,rx,ry,k _ W H (.refl _) G rfl⟩
noncomputable def ifS(c:Bool)(x:PyData):Option PyData:=if c=true then some x else none
theorem aGg{c:Bool}{x y:PyData}(h:ifS c x=some y):c=true/\y=x:=by
 unfold ifS at h;cases c with
 |true=>rw[A4 rfl]at h;cases h;exact⟨rfl,rfl⟩
 |false=>rw[A5 A6]at h;cases h
theorem aBR{C:Int->Int->Prop}{c:Int->Int->Bool}{g:Int->Int->Int}(hc:∀i j,c i j=true->C i j):P2 K (rI C fun i j=>.int (g i j)) (pI fun i j=>ifS (c i j) (.int (g i j))):=by
 intro x y M z M' h W H v u Q G rx ry k;obtain⟨i,j,w,rfl,rfl,hw,rfl,rfl⟩:=XN h;obtain⟨h1,rfl⟩:=aGg hw;exact⟨i,j,rx,ry,hc i j h1,k _ W H (.refl _) G rfl⟩
noncomputable def aBJ:F2:=pI fun i j=>some (.int (i+j))
noncomputable def vJ:F2:=pI fun i j=>some (.int (i-j))
noncomputable def pV(i j:Int):Bool:=decide (i.natAbs<2 ^ 64) || decide (j.natAbs<2 ^ 64) || (decide (i.natAbs<qW)&&decide (j.natAbs<qW))
noncomputable def ID:F2:=pI fun i j=>ifS (pV i j) (.int (i*j))
noncomputable def DM(_ j:Int):Bool:=decide (0<j)&&decide (j.natAbs<qW)
noncomputable def EM:F2:=pI fun i j=>ifS (DM i j) (.int (i / j))
noncomputable def mO(_ j:Int):Bool:=decide (0<j)
noncomputable def oQ:F2:=pI fun i j=>ifS (mO i j) (.int (i % j))
noncomputable def uQ(i j:Int):Bool:=decide (0<=j)&&decide (j<=1000000)&&decide (i.natAbs<2 ^ 64)
noncomputable def vC:F2:=pI fun i j=>ifS (uQ i j) (.int (i ^ j.toNat))
theorem mulOk_of{i j:Int}(h:pV i j=true):IW i j:=by
 unfold pV at h;simp only[Bool.or_eq_true,Bool.and_eq_true,decide_eq_true_eq]at h;rcases h with(h|h)|h
 .exact .inl (.inl ⟨by omega,by omega⟩)
 .exact .inl (.inr ⟨by omega,by omega⟩)
 .exact .inr h
noncomputable def ltI:F2:=pI fun i j=>some (.bool (decide (i<j)))
noncomputable def leI:F2:=pI fun i j=>some (.bool (decide (i<=j)))
noncomputable def gtI:F2:=pI fun i j=>some (.bool (decide (j<i)))
noncomputable def geI:F2:=pI fun i j=>some (.bool (decide (j<=i)))
noncomputable def eqD(neg:Bool):F2:=fun x y M=>match x,y with
 |.d a,.d b=>if (SeqAt.shaped a&&SeqAt.shaped b)=true then some (.d (.bool (if neg then !PyData.eqv a b else PyData.eqv a b)),M)else none
 |_,_=>none
theorem aDJ{neg:Bool}:P2 K (NQ K neg) (eqD neg):=by
 intro x y M z M' h W H v u Q G rx ry k;unfold eqD at h;split at h
 .rename_i a b;by_cases hs:(SeqAt.shaped a&&SeqAt.shaped b)=true
  .rw[A4 hs]at h;cases h;rw[B3]at hs;exact⟨a,b,Rep.same G.fh _ _ rx,Rep.same G.fh _ _ ry,hs.1,hs.2,k _ W H (.refl _) G rfl⟩
  .rw[A5 hs]at h;cases h
 .cases h
theorem aK.nth{ds:List PyData}{vs:List V}{i:Nat}{d:PyData}(h:aK K H ds vs)(e:ds[i]?=some d):∃v,vs[i]?=some v/\Rep K H d v:=by
 have hlt:i<vs.length:=by rw[<- h.length];exact(List.getElem?_eq_some_iff.mp e).1
 have hv:vs[i]?=some vs[i]:=B1 hlt;obtain⟨d',hd',r⟩:=h.get hv;rw[e]at hd';cases hd';exact⟨_,hv,r⟩
theorem LV{α:Type}{xs:List α}{i:Int}{x:α}(h:atI xs i=some x):∃j,ixN xs.length i=some j/\xs[j]?=some x:=by
 unfold atI at h;exact aG h
theorem GG{α:Type}{xs:List α}{i:Int}{j:Nat}{x:α}(h:ixN xs.length i=some j)(e:xs[j]?=some x):atI xs i=some x:=by
 unfold atI;rw[h];exact e
noncomputable def ixF:F2:=fun x y M=>match x,y with
 |.d a,.d (.int n)=>(bJ a).bind fun ds=>(atI ds n).bind fun e=>some (.d e,M)
 |.c i,.d (.int n)=>match M[i]? with
  |some (.lst xs)=>(atI xs n).bind fun e=>some (e,M)
  |_=>none
 |.t xs,.d (.int n)=>(atI xs n).bind fun e=>some (cdA e,M)
 |_,_=>none
theorem Good.lstAt{i:Nat}{xs:List CD}(G:Good K W M H)(h:M[i]?=some (.lst xs)):∃vs,H (W.α i)=some (.lst vs)/\bM K W xs vs:=by
 obtain⟨_,o,h2,h3⟩:=G.cs i _ h (by intro z;cases z);cases o with
 |lst vs=>exact⟨vs,h2,h3⟩
 |_=>exact False.elim h3
theorem aHP:P2 K (rIx K) ixF:=by
 intro x y M z M' h W H v u Q G rx ry k;unfold ixF at h;split at h
 .rename_i a n;obtain⟨ds,h1,h⟩:=aG h;obtain⟨e,h2,h⟩:=aG h;cases h;obtain⟨p,vs,rfl,hq,hr⟩:=mU (Rep.same G.fh _ _ rx) h1;obtain⟨j,hj,he⟩:=LV h2;obtain⟨w,hw,rw'⟩:=hr.nth he;have hlen:=hr.length;have hat:atI vs n=some w:=GG (by rw[<- hlen];exact hj) hw;obtain⟨p',vs',e',hq',hr'⟩:=mU (show Rep K W.F a (.ref p)from rx) h1;cases e'
  have same:∀w',vs'[j]?=some w'->Rep K W.F e w':=fun w' hw'=>by
   obtain⟨w2,h3,h4⟩:=hr'.nth he;rw[hw']at h3;cases h3;exact h4
  obtain⟨w',hw',r'⟩:=hr'.nth he;have hat':atI vs' n=some w':=GG (by rw[<- hr'.length];exact hj) hw';rcases hq' with hq'|hq'
  .exact .inl ⟨p,vs',n,w',rfl,ry,G.fh.seq hq',hat',k _ W H (.refl _) G r'⟩
  .exact .inr (.inl ⟨p,vs',n,w',rfl,ry,G.fh.seqT hq',hat',k _ W H (.refl _) G r'⟩)
 .rename_i i n;split at h
  .rename_i xs hx;obtain⟨e,h2,h⟩:=aG h;cases h;obtain⟨vs,hv,hr⟩:=G.lstAt hx;obtain⟨j,hj,he⟩:=LV h2;obtain⟨w,hw,r'⟩:=Paired.get hr he;have hat:atI vs n=some w:=GG (by rw[<- Paired.len hr];exact hj) hw;rw[show v=.ref (W.α i)from rx.2];exact .inl ⟨_,vs,n,w,rfl,ry,SqL.of hv,hat,k _ W H (.refl _) G r'⟩
  .cases h
 .rename_i xs n;obtain⟨e,h2,h⟩:=aG h;cases h;obtain⟨a,vs,rfl,hv,hr⟩:=rx;obtain⟨j,hj,he⟩:=LV h2;obtain⟨w,hw,r'⟩:=Paired.get hr he;have hat:atI vs n=some w:=GG (by rw[<- Paired.len hr];exact hj) hw;exact .inr (.inl ⟨_,vs,n,w,rfl,ry,SqT.of (G.fh _ _ hv),hat,k _ W H (.refl _) G (by cases e<;>exact r')⟩)
 .cases h
noncomputable def mB:FN:=fun xs M=>match xs with
 |[.d a]=>(bJ a).bind fun ds=>some (.d (.int ds.length),M)
 |[.c i]=>match M[i]? with
  |some (.lst ys)=>some (.d (.int ys.length),M)
  |_=>none
 |[.t xs]=>some (.d (.int xs.length),M)
 |_=>none
theorem aEt:PN K (fun xs H Q=>∃p ys,xs=[.ref p]/\(SqL K H p ys\/SqT K H p ys)/\Q (.int ys.length) H) mB:=by
 intro xs M z M' h W H vs Q G r k;unfold mB at h;split at h
 .rename_i a;obtain⟨ds,h1,h⟩:=aG h;cases h;rcases r with _|⟨r1,_|_⟩;obtain⟨p,us,rfl,hq,hr⟩:=mU (Rep.same G.fh _ _ r1) h1;refine⟨p,us,rfl,hq,?_⟩;rw[<- hr.length];exact k _ W H (.refl _) G rfl
 .rename_i i;split at h
  .rename_i ys hy;cases h;rcases r with _|⟨r1,_|_⟩;obtain⟨us,hv,hr⟩:=G.lstAt hy;rw[r1.2];refine⟨_,us,rfl,.inl (SqL.of hv),?_⟩;rw[<- Paired.len hr];exact k _ W H (.refl _) G rfl
  .cases h
 .rename_i xs;cases h;rcases r with _|⟨r1,_|_⟩;obtain⟨a,us,rfl,hv,hr⟩:=r1;refine⟨_,us,rfl,.inr (SqT.of (G.fh _ _ hv)),?_⟩;rw[<- Paired.len hr];exact k _ W H (.refl _) G rfl
 .cases h
noncomputable def ED:FN:=fun xs M=>match xs with
 |[.d a]=>(bJ a).bind fun ds=>some (.d (.list ds),M)
 |[.c i]=>match M[i]? with
  |some (.lst ys)=>(hV ys).bind fun ds=>some (.d (.list ds),M)
  |_=>none
 |_=>none
theorem aBT:PN K (fun xs H Q=>∃p ys,xs=[.ref p]/\(SqL K H p ys\/SqT K H p ys)/\∀l,H l=none->Q (.ref l) (upd H l (.lst ys))) ED:=by
 intro xs M z M' h W H vs Q G r k;unfold ED at h;split at h
 .rename_i a;obtain⟨ds,h1,h⟩:=aG h;cases h;rcases r with _|⟨r1,_|_⟩;obtain⟨p,us,rfl,hq,hr⟩:=mU (show Rep K W.F a _ from r1) h1;refine⟨p,us,rfl,hq.imp (fun z=>G.fh.seq z) (fun z=>G.fh.seqT z),fun l hl=>?_⟩;obtain⟨e2,G2⟩:=G.lay (o:=.lst us) hl;exact k _ _ _ e2 G2 ⟨l,us,rfl,SqL.of aP,aK.same e2.ff _ _ hr⟩
 .rename_i i;split at h
  .rename_i ys hy;obtain⟨ds,h1,h⟩:=aG h;cases h;rcases r with _|⟨r1,_|_⟩;obtain⟨us,hv,hr⟩:=G.lstAt hy;rw[r1.2];refine⟨_,us,rfl,.inl (SqL.of hv),fun l hl=>?_⟩;obtain⟨e2,G2⟩:=G.lay (o:=.lst us) hl;exact k _ _ _ e2 G2 ⟨l,us,rfl,SqL.of aP,aK.same e2.ff _ _ (cX h1 hr)⟩
  .cases h
 .cases h
noncomputable def hJ:FN:=fun xs M=>match xs with
 |[.d (.list ds)]=>some (.d (.tuple ds),M)
 |[.d (.tuple ds)]=>some (.d (.tuple ds),M)
 |[.c i]=>match M[i]? with
  |some (.lst ys)=>(hV ys).bind fun ds=>some (.d (.tuple ds),M)
  |_=>none
 |_=>none
theorem ZG:PN K (fun xs H Q=>∃p ys,xs=[.ref p]/\((SqL K H p ys/\∀l,H l=none->Q (.ref l) (upd H l (.tup ys)))\/(SqT K H p ys/\Q (.ref p) H))) hJ:=by
 intro xs M z M' h W H vs Q G r k;unfold hJ at h;split at h
 .rename_i ds;cases h;rcases r with _|⟨r1,_|_⟩;obtain⟨p,us,rfl,hq,hr⟩:=(show ∃a us,_=V.ref a/\SqL K W.F a us/\aK K W.F ds us from r1);refine⟨p,us,rfl,.inl ⟨G.fh.seq hq,fun l hl=>?_⟩⟩;obtain⟨e2,G2⟩:=G.lay (o:=.tup us) hl;exact k _ _ _ e2 G2 ⟨l,us,rfl,SqT.of aP,aK.same e2.ff _ _ hr⟩
 .rename_i ds;cases h;rcases r with _|⟨r1,_|_⟩;obtain⟨p,us,rfl,hq,hr⟩:=(show ∃a us,_=V.ref a/\SqT K W.F a us/\aK K W.F ds us from r1);exact⟨p,us,rfl,.inr ⟨G.fh.seqT hq,k _ W H (.refl _) G ⟨p,us,rfl,hq,hr⟩⟩⟩
 .rename_i i;split at h
  .rename_i ys hy;obtain⟨ds,h1,h⟩:=aG h;cases h;rcases r with _|⟨r1,_|_⟩;obtain⟨us,hv,hr⟩:=G.lstAt hy;rw[r1.2];refine⟨_,us,rfl,.inl ⟨SqL.of hv,fun l hl=>?_⟩⟩;obtain⟨e2,G2⟩:=G.lay (o:=.tup us) hl;exact k _ _ _ e2 G2 ⟨l,us,rfl,SqT.of aP,aK.same e2.ff _ _ (cX h1 hr)⟩
  .cases h
 .cases h
noncomputable def FO(T:String)(f:EF):EF:=fun γ M=>(f γ M).bind fun r=>match r.1 with
 |.d a=>some (.d (.bool (sO T a)),r.2)
 |_=>none
theorem aFm{T:String}{ta:TE}{f:EF}(hT:T∈asked)(a:SE K ta f):SE K (tCB (aBh K) (iZ ta (iZ (tC (.ty T)) FA))) (FO T f):=by
 intro γ M x M' hh W H σ Q G R k;obtain⟨⟨y,M1⟩,h1,hh⟩:=aG hh;cases y with
 |c _=>cases hh
 |t _=>cases hh
 |f _=>cases hh
 |d y=>
  cases hh;refine a _ _ _ _ h1 W H σ _ G R fun v W1 H1 e1 G1 r1=>?_;exact⟨v,T,y,rfl,hT,Rep.same G1.fh _ _ r1,k _ W1 H1 e1 G1 rfl⟩
noncomputable def aHC(T U:String)(f:EF):EF:=fun γ M=>(f γ M).bind fun r=>match r.1 with
 |.d a=>some (.d (.bool (sO T a || sO U a)),r.2)
 |_=>none
noncomputable def aBu(M:Sto):CD->Option Bool
 |.d .none=>some false
 |.d (.bool b)=>some b
 |.d (.int i)=>some (i != 0)
 |.d (.list ds)=>some (!ds.isEmpty)
 |.d (.tuple ds)=>some (!ds.isEmpty)
 |.c i=>match M[i]? with
  |some (.lst xs)=>some (!xs.isEmpty)
  |some (.dk kvs)=>some (!kvs.isEmpty)
  |_=>none
 |_=>none
noncomputable def LO(f:EF):TF:=fun γ M=>(f γ M).bind fun r=>(aBu r.2 r.1).bind fun b=>some (b,r.2)
theorem kX{α β:Type}{xs:List α}{ys:List β}(h:xs.length=ys.length):xs.isEmpty=ys.isEmpty:=by
 cases xs<;>cases ys<;>simp at h ⊢
theorem aFj{ta:TE}{f:EF}(a:SE K ta f):STt K (fun σ H Q=>ta σ H fun x H'=>∃k,aAY K x H' k/\Q k H') (LO f):=by
 intro γ M b M' hh W H σ Q G R k;obtain⟨⟨y,M1⟩,h1,hh⟩:=aG hh;obtain⟨b1,h2,hh⟩:=aG hh;cases hh;refine a _ _ _ _ h1 W H σ _ G R fun v W1 H1 e1 G1 r1=>⟨_,?_,k W1 H1 e1 G1⟩;cases y with
 |d y=>
  cases y with
  |none=>cases h2;rw[show v=.non from r1];rfl
  |bool c=>cases h2;rw[show v=.bl _ from r1];rfl
  |int i=>cases h2;rw[show v=.int _ from r1];rfl
  |str x=>cases h2
  |list ds=>
   cases h2;obtain⟨p,us,rfl,hq,hr⟩:=(show ∃a us,_=V.ref a/\SqL K W1.F a us/\aK K W1.F ds us from r1);exact .inl ⟨us,G1.fh.seq hq,by rw[kX hr.length]⟩
  |tuple ds=>
   cases h2;obtain⟨p,us,rfl,hq,hr⟩:=(show ∃a us,_=V.ref a/\SqT K W1.F a us/\aK K W1.F ds us from r1);exact .inr (.inl ⟨us,G1.fh.seqT hq,by rw[kX hr.length]⟩)
  |dict kvs=>cases h2
 |t _=>cases h2
 |f _=>cases h2
 |c i=>
  rw[r1.2];unfold aBu at h2;dsimp only at h2;split at h2
  .rename_i xs hx;cases h2;obtain⟨us,hv,hr⟩:=G1.lstAt hx;exact .inl ⟨us,SqL.of hv,by rw[kX (Paired.len hr)]⟩
  .rename_i kvs hx;cases h2;obtain⟨_,o,g2,g3⟩:=G1.cs i _ hx (by intro z;cases z);cases o with
   |dK us=>exact .inr (.inr ⟨us,g2,by rw[kX (Paired.len g3)]⟩)
   |_=>exact False.elim g3
  .cases h2
noncomputable def boolsOf:List PyData->Option (List Bool)
 |[]=>some []
 |.bool b::r=>(boolsOf r).bind fun bs=>some (b::bs)
 |_::_=>none
noncomputable def LK:FN:=fun xs M=>match xs with
 |[.d (.list ds)]=>(boolsOf ds).bind fun bs=>some (.d (.bool (bs.all id)),M)
 |_=>none
theorem EN{H:Hp}:∀{ds:List PyData}{bs:List Bool}{vs:List V},boolsOf ds=some bs->aK K H ds vs->vs=bs.map V.bl
 |[],bs,vs=>fun e h=>by cases e;exact h
 |.bool b::r,bs,vs=>fun e h=>by
  obtain⟨cs,h1,e⟩:=aG (show(boolsOf r).bind _=_ from e);cases e;obtain⟨v,us,rfl,h2,h3⟩:=h;rw[show v=V.bl b from h2,EN h1 h3];rfl
 |.none::_,_,_=>fun e _=>by cases e
 |.int _::_,_,_=>fun e _=>by cases e
 |.str _::_,_,_=>fun e _=>by cases e
 |.list _::_,_,_=>fun e _=>by cases e
 |.tuple _::_,_,_=>fun e _=>by cases e
 |.dict _::_,_,_=>fun e _=>by cases e
theorem SX(hc:X.calm=true):eD X (.builtin "all") (fun xs H Q=>∃(p:Addr)(bs:List Bool),xs=[.ref p]/\SqL X.K H p (bs.map V.bl)/\Q (.bl (bs.all id)) H):=by
 intro pins s σ H xs us Q I r h;obtain⟨p,bs,rfl,hp,q⟩:=h;obtain⟨u,rfl,ru⟩:=vals1 r;cases (show u=Value.ref p from ru);obtain⟨its,rv,pl,hz⟩:=I.list hp;have hits:=bC.bools rv;subst hits;refine call_all_walk (wpAny_pyIter_list pl.isList ?_);have hlt:p<s.heap.objs.size:=pl.lt;refine⟨_,_,_,_,_,_,(fun i=>bs.getD i false),rfl,Walks.list (A:=X.A.in1) (I.ok.hd hc) s.heap.objs.size p (B6 hlt) (bs.map Value.bool).toArray,⟨⟨_,B0 _ rfl,rfl,rfl⟩,pl.isList.at fun o e=>A2 _ e⟩,KB,fun h' tk hk=>?_⟩;have e1:((bs.map Value.bool).toArray).size=bs.length:=by simp
 rw[e1,all_range];refine⟨.bl _,H,I.kept (h':=h') (t':=tk) fun b o e=>?_,rfl,q⟩;exact hk b o (fun z=>by rw[List.mem_singleton]at z;exact absurd (A8 e) (by rw[z];exact F8 _)) (A2 _ e)
theorem aDX:PN K (fun xs H Q=>∃(p:Addr)(bs:List Bool),xs=[.ref p]/\SqL K H p (bs.map V.bl)/\Q (.bl (bs.all id)) H) LK:=by
 intro xs M z M' h W H vs Q G r k;unfold LK at h;split at h
 .rename_i ds;obtain⟨bs,h1,h⟩:=aG h;cases h;rcases r with _|⟨r1,_|_⟩;obtain⟨p,us,rfl,hq,hr⟩:=(show ∃a us,_=V.ref a/\SqL K W.F a us/\aK K W.F ds us from r1);have e:=EN h1 hr;subst e;exact⟨p,bs,rfl,G.fh.seq hq,k _ W H (.refl _) G rfl⟩
 .cases h
noncomputable def BF:F3:=fun x y z M=>match x,y with
 |.c i,.d (.int k)=>match M[i]? with
  |some (.lst xs)=>(ixN xs.length k).bind fun j=>some (M.set i (.lst (xs.set j z)))
  |_=>none
 |_,_=>none
theorem aFn:P3 K aDG BF:=by
 intro x y z M M' h W H v u w Q G rx ry rz k;unfold BF at h;split at h
 .rename_i i n;split at h
  .rename_i xs hx;obtain⟨j,h1,h⟩:=aG h;cases h;obtain⟨us,hv,hr⟩:=G.lstAt hx;refine⟨W.α i,us,n,j,rx.2,ry,hv,by rw[<- Paired.len hr];exact h1,?_⟩;exact k W _ (.refl _) (G.set hx (by intro q;cases q) (c':=.lst (xs.set j z)) (show bM K W _ _ from Paired.set (R:=bP K W) rz j hr))
  .cases h
 .cases h
end
section
variable{X:Cx}{K:Fg}
noncomputable def DY(K:Fg):R2:=fun x y H Q=>∃l b xs zs,x=.ref l/\y=.ref b/\SqL K H l xs/\SqL K H b zs/\xs.length+zs.length<=sizeLine/\∀p,H p=none->Q (.ref p) (upd H p (.lst (xs++zs)))
theorem op_catS:OpR X (binaryOp .Add) (DY X.K):=by
 intro pins s σ H x y v u Q I rx ry h;obtain⟨l,b,xs,zs,rfl,rfl,hH,hB,hz,q⟩:=h;cases rx;cases ry;obtain⟨its,r,⟨⟨cls,dd,data,sl⟩,n,ho,hc,hdd,hd⟩,_⟩:=I.list hH;obtain⟨its2,r2,⟨⟨cls2,dd2,data2,sl2⟩,n2,ho2,hc2,hdd2,hd2⟩,_⟩:=I.list hB;simp only at hc hd hc2 hd2;subst hc hd hc2 hd2;have e1:=r.length;have e2:=r2.length;refine concat_meets ⟨_,ho,rfl⟩ ⟨_,ho2,rfl⟩ noFill_list_add seq_list_add PySem.F.slot_list_add PySem.F.entry_list_add (PySem.F.args_list_add_2 _ _) (list_addW l b its.toArray its2.toArray n n2 dd dd2 sl sl2 (by rw[C5,C5];omega)) ⟨ho,ho2,?_⟩;have ea:its.toArray++its2.toArray=(its++its2).toArray:=by simp
 rw[ea];exact⟨.ref _,_,I.lnew (t':=s.toks) (r.append r2) (by rw[B2];omega),rfl,q _ I.fresh⟩
noncomputable def rT(M:Sto):CD->Option (List CD)
 |.d (.list ds)=>some (ds.map .d)
 |.c i=>match M[i]? with
  |some (.lst xs)=>some xs
  |_=>none
 |_=>none
theorem rB{x:CD}{xs:List CD}{v:V}(G:Good K W M H)(h:rT M x=some xs)(r:bP K W x v):∃p vs,v=.ref p/\SqL K H p vs/\bM K W xs vs:=by
 unfold rT at h;split at h
 .rename_i ds;cases h;obtain⟨p,us,rfl,hq,hr⟩:=(show ∃a us,_=V.ref a/\SqL K W.F a us/\aK K W.F ds us from r);exact⟨p,us,rfl,G.fh.seq hq,jQ hr⟩
 .rename_i i;split at h
  .rename_i ys hy;cases h;obtain⟨us,hv,hr⟩:=G.lstAt hy;exact⟨_,us,r.2,SqL.of hv,hr⟩
  .cases h
 .cases h
noncomputable def HI:F2:=fun x y M=>(rT M x).bind fun xs=>(rT M y).bind fun ys=>(hV (xs++ys)).bind fun ds=>if ds.length<=sizeLine then some (.d (.list ds),M)else none
theorem aAL:P2 K (DY K) HI:=by
 intro x y M z M' h W H v u Q G rx ry k;obtain⟨xs,h1,h⟩:=aG h;obtain⟨ys,h2,h⟩:=aG h;obtain⟨ds,h3,h⟩:=aG h;by_cases hl:ds.length<=sizeLine
 .rw[A4 hl]at h;cases h;obtain⟨p,vs,rfl,hp,hr⟩:=rB G h1 rx;obtain⟨q,us,rfl,hq,hs⟩:=rB G h2 ry;have el:=AG h3;rw[B2]at el;refine⟨p,q,vs,us,rfl,rfl,hp,hq,by rw[<- Paired.len hr,<- Paired.len hs];omega,fun l hl=>?_⟩;obtain⟨e2,G2⟩:=G.lay (o:=.lst (vs++us)) hl;exact k _ _ _ e2 G2 ⟨l,_,rfl,SqL.of aP,aK.same e2.ff _ _ (cX h3 (Paired.app hr hs))⟩
 .rw[A5 hl]at h;cases h
noncomputable def aGl:F2:=fun x y M=>match x,y with
 |.d (.tuple xs),.d (.tuple ys)=>if xs≠[]/\xs.length+ys.length<=sizeLine then some (.d (.tuple (xs++ys)),M)else none
 |_,_=>none
theorem aK.nil_iff{ds:List PyData}{vs:List V}(r:aK K H ds vs):vs=[]↔ds=[]:=by
 have:=r.length;constructor<;>intro h<;>subst h<;>simp at this
 .exact this
 .exact List.eq_nil_of_length_eq_zero this.symm
theorem aAX:P2 K (VO K) aGl:=by
 intro x y M z M' h W H v u Q G rx ry k;unfold aGl at h;split at h
 .rename_i xs ys;by_cases hc:xs≠[]/\xs.length+ys.length<=sizeLine
  .rw[A4 hc]at h;cases h;obtain⟨p,vs,rfl,hp,hr⟩:=(show ∃a us,v=V.ref a/\SqT K W.F a us/\aK K W.F xs us from rx);obtain⟨q,us,rfl,hq,hs⟩:=(show ∃a us,u=V.ref a/\SqT K W.F a us/\aK K W.F ys us from ry);refine⟨p,q,vs,us,rfl,rfl,G.fh.seqT hp,G.fh.seqT hq,fun z=>hc.1 (hr.nil_iff.mp z),by rw[<- hr.length,<- hs.length];exact hc.2,fun z=>?_,fun z l hl=>?_⟩
   .have:ys=[]:=hs.nil_iff.mp z;subst this;rw[C6]at k;exact k _ W H (.refl _) G ⟨p,vs,rfl,hp,hr⟩
   .obtain⟨e2,G2⟩:=G.lay (o:=.tup (vs++us)) hl;exact k _ _ _ e2 G2 ⟨l,_,rfl,SqT.of aP,aK.same e2.ff _ _ (aK.app hr hs)⟩
  .rw[A5 hc]at h;cases h
 .cases h
theorem P2.or{r r':R2}{h h':F2}(a:P2 K r h)(b:P2 K r' h'):P2 K (fun x y H Q=>r x y H Q\/r' x y H Q) (xG h h'):=by
 intro x y M z M' hh W H v u Q G rv ru k;unfold xG at hh;cases e:h x y M with
 |some q=>
  rw[e]at hh;cases hh;exact .inl (a _ _ _ _ _ e W H v u Q G rv ru k)
 |none=>
  rw[e]at hh;exact .inr (b _ _ _ _ _ hh W H v u Q G rv ru k)
noncomputable def LM(K:Fg):R2:=fun x y H Q=>∃a b ys,x=.ref a/\y=.ref b/\SqT K H a []/\SqT K H b ys/\Q (.ref b) H
theorem op_catT0:OpR X (binaryOp .Add) (LM X.K):=by
 intro pins s σ H x y v u Q I rx ry h;obtain⟨a,b,ys,rfl,rfl,ha,hb,q⟩:=h;cases rx;cases ry;obtain⟨its,r1,⟨⟨cls,dd,data,sl⟩,ho,hc,n,hd⟩,_⟩:=I.tuple ha;obtain⟨its2,r2,⟨⟨cls2,dd2,data2,sl2⟩,ho2,hc2,n2,hd2⟩,_⟩:=I.tuple hb;simp only at hc hd hc2 hd2;subst hc hd hc2 hd2;cases r1;exact concat_meets ⟨_,ho,rfl⟩ ⟨_,ho2,rfl⟩ noFill_tuple_add seq_tuple_add PySem.F.slot_tuple_add PySem.F.entry_tuple_add (PySem.F.args_tuple_add_2 _ _) (tuple_addW0 a b #[] its2.toArray n n2 dd dd2 sl sl2 rfl) ⟨ho,ho2,⟨.ref b,H,I,rfl,q⟩⟩
noncomputable def UO:F2:=fun x y M=>match x,y with
 |.d (.tuple []),.d (.tuple ys)=>some (.d (.tuple ys),M)
 |_,_=>none
theorem VG:P2 K (LM K) UO:=by
 intro x y M z M' h W H v u Q G rx ry k;unfold UO at h;split at h
 .rename_i ys;cases h;obtain⟨p,vs,rfl,hp,hr⟩:=(show ∃a us,v=V.ref a/\SqT K W.F a us/\aK K W.F [] us from rx);obtain⟨q,us,rfl,hq,hs⟩:=(show ∃a us,u=V.ref a/\SqT K W.F a us/\aK K W.F ys us from ry);rw[show vs=[]from hr]at hp;exact⟨p,q,us,rfl,rfl,G.fh.seqT hp,G.fh.seqT hq,k _ W H (.refl _) G ⟨q,us,rfl,hq,hs⟩⟩
 .cases h
noncomputable def dW:F2:=xG aBJ (xG HI (xG UO aGl))
noncomputable def QA(K:Fg):R2:=fun x y H Q=>(rI0 fun i j=>.int (i+j)) x y H Q\/DY K x y H Q\/LM K x y H Q\/VO K x y H Q
theorem aBW:OpR X (binaryOp .Add) (QA X.K):=op_add.or (op_catS.or (op_catT0.or aBs))
theorem QT:P2 K (QA K) dW:=P2.or aDe (P2.or aAL (P2.or VG aAX))
noncomputable def eqS(neg:Bool):F2:=fun x y M=>match x,y with
 |.d (.str a),.d (.str b)=>some (.d (.bool (if neg then !(a==b)else a==b)),M)
 |_,_=>none
noncomputable def eqX(neg:Bool):F2:=xG (eqS neg) (eqD neg)
noncomputable def aEC(K:Fg):R2:=fun x y H Q=>rEq x y H Q\/NQ K false x y H Q
noncomputable def aFc(K:Fg):R2:=fun x y H Q=>rNe x y H Q\/NQ K true x y H Q
theorem aAE{a b:Str}:decide (V.str a=V.str b)=(a==b):=by
 by_cases e:a=b
 .subst e;simp
 .have h:¬V.str a=V.str b:=fun q=>e (V.str.inj q);rw[B8 h,beq_eq_false_iff_ne.mpr e]
theorem aEG:P2 K rEq (eqS false):=by
 intro x y M z M' h W H v u Q G rx ry k;unfold eqS at h;split at h
 .rename_i a b;cases h;rw[show v=.str a from rx,show u=.str b from ry];refine⟨rfl,?_⟩;rw[aAE];exact k _ W H (.refl _) G rfl
 .cases h
theorem aGc:P2 K rNe (eqS true):=by
 intro x y M z M' h W H v u Q G rx ry k;unfold eqS at h;split at h
 .rename_i a b;cases h;rw[show v=.str a from rx,show u=.str b from ry];refine⟨rfl,?_⟩;rw[aAE];exact k _ W H (.refl _) G rfl
 .cases h
theorem aFt:P2 K (aEC K) (eqX false):=P2.or aEG aDJ
theorem UE:P2 K (aFc K) (eqX true):=P2.or aGc aDJ
theorem aEj(hu:X.A.units+64<cLine):OpR X (compareOp .Eq) (aEC X.K):=op_eq.or (aFg hu)
theorem aFa(hu:X.A.units+64<cLine):OpR X (compareOp .NotEq) (aFc X.K):=op_ne.or (YR hu)
theorem aGe:P2 K (rI0 fun i j=>.int (i-j)) vJ:=aDe
theorem aFP:P2 K (rI IW fun i j=>.int (i*j)) ID:=aBR fun _ _ h=>mulOk_of h
theorem aAM:P2 K (rI aDz fun i j=>.int (i / j)) EM:=aBR fun i j h=>by
 unfold DM at h;rw[B3]at h;exact⟨C2 h.1,C2 (p:=j.natAbs<qW) h.2⟩
theorem aFv:P2 K (rI (fun _ j=>0<j) fun i j=>.int (i % j)) oQ:=aBR fun i j h=>C2 h
theorem aFU:P2 K (rI aIh fun i j=>.int (i ^ j.toNat)) vC:=aBR fun i j h=>by
 unfold uQ at h;rw[B3,B3]at h;exact⟨C2 h.1.1,C2 h.1.2,C2 h.2⟩
theorem aHz:P2 K (rI0 fun i j=>.bl (decide (i<j))) ltI:=OP
theorem aIf:P2 K (rI0 fun i j=>.bl (decide (i<=j))) leI:=OP
theorem aIi:P2 K (rI0 fun i j=>.bl (decide (j<i))) gtI:=OP
theorem aHX:P2 K (rI0 fun i j=>.bl (decide (j<=i))) geI:=OP
noncomputable def CM:F1:=fun x M=>match x with
 |.d (.int i)=>some (.d (.int (-i)),M)
 |_=>none
theorem aFJ:P1 K (rU fun i=>.int (-i)) CM:=by
 intro x M z M' h W H v Q G r k;unfold CM at h;split at h
 .rename_i i;cases h;exact⟨i,r,k _ W H (.refl _) G rfl⟩
 .cases h
end
section
variable{X:Cx}{K:Fg}
theorem aHr(h:X.K=K):eD X (.builtin "isinstance") (aBh K):=by subst h;exact TZ
theorem aIk(h:X.K=K):eD X (.builtin "isinstance") (WS K):=by subst h;exact MR
noncomputable def aHh(K:Fg):R2:=rIx K
theorem kIx(h:X.K=K):IxR X (aHh K):=by subst h;exact aDW
theorem aEk:P2 K (aHh K) ixF:=aHP
noncomputable def aDQ(K:Fg):List V->Hp->VK->Prop:=fun xs H Q=>∃p ys,xs=[.ref p]/\(SqL K H p ys\/SqT K H p ys)/\Q (.int ys.length) H
theorem aIQ(h:X.K=K):eD X (.builtin "len") (aDQ K):=by subst h;exact GW
theorem aBa:PN K (aDQ K) mB:=aEt
noncomputable def NL(K:Fg):List V->Hp->VK->Prop:=fun xs H Q=>∃p ys,xs=[.ref p]/\(SqL K H p ys\/SqT K H p ys)/\∀l,H l=none->Q (.ref l) (upd H l (.lst ys))
theorem aDE(h:X.K=K):eD X (.type "list") (NL K):=by subst h;exact GZ
theorem aAp:PN K (NL K) ED:=aBT
noncomputable def OZ(K:Fg):List V->Hp->VK->Prop:=fun xs H Q=>∃p ys,xs=[.ref p]/\((SqL K H p ys/\∀l,H l=none->Q (.ref l) (upd H l (.tup ys)))\/(SqT K H p ys/\Q (.ref p) H))
theorem aGt(h:X.K=K):eD X (.type "tuple") (OZ K):=by subst h;exact CK
theorem SY:PN K (OZ K) hJ:=ZG
noncomputable def aDT(K:Fg):List V->Hp->VK->Prop:=fun xs H Q=>∃(p:Addr)(bs:List Bool),xs=[.ref p]/\SqL K H p (bs.map V.bl)/\Q (.bl (bs.all id)) H
theorem aIG(h:X.K=K)(hc:X.calm=true):eD X (.builtin "all") (aDT K):=by subst h;exact SX hc
theorem aBB:PN K (aDT K) LK:=aDX
theorem kEq(h:X.K=K)(hu:X.A.units+64<cLine):OpR X (compareOp .Eq) (aEC K):=by subst h;exact aEj hu
theorem kNe(h:X.K=K)(hu:X.A.units+64<cLine):OpR X (compareOp .NotEq) (aFc K):=by subst h;exact aFa hu
theorem aIw(h:X.K=K):OpR X (binaryOp .Add) (QA K):=by subst h;exact aBW
theorem aCr{tg l:Expr}{tl:TE}(h:X.K=K)(hl:PE X l tl):PI X tg l (aFZ K tl):=by subst h;exact aEb hl
theorem PF{es:List Expr}{k:Nat}{t:TGs}{n:Nat}{pos:Pos}(hK:X.K=K)(hc:X.calm=true)(h:PGs X es t)
 (hn:(assignEach es X.env).length=n:=by rfl) (hst:(assignEach es X.env).findIdx? (·.1)=none:=by rfl):PG X (.Tuple es k pos) (UW K n t):=by subst hK;exact aEZ hc h hn hst
noncomputable def aIj(K:Fg)(ta:TE):TT:=fun σ H Q=>ta σ H fun x H'=>∃k,aAY K x H' k/\Q k H'
theorem aCk{a:Expr}{ta:TE}(hK:X.K=K)(ha:PE X a ta)(he:∀whole,isTrue a X.env whole=(do let v <- whole;standAt a.pos;holding [v] (truthy v))):PT X a (aIj K ta):=by subst hK;exact UQ ha he
theorem aCJ{ta:TE}{f:EF}(a:SE K ta f):STt K (aIj K ta) (LO f):=aFj a
end
section
variable{es:List Expr}{env:Env}
theorem aX{a b}:starEach (.Name a b::es) env=(false,eval (.Name a b) env)::starEach es env:=rfl
theorem jJ{a b c}:starEach (.Tuple a b c::es) env=(false,eval (.Tuple a b c) env)::starEach es env:=rfl
theorem BG{a b c}:starEach (.Subscript a b c::es) env=(false,eval (.Subscript a b c) env)::starEach es env:=rfl
theorem rX{a b c d}:starEach (.ListComp a b c d::es) env=(false,eval (.ListComp a b c d) env)::starEach es env:=rfl
theorem rK{pos:Pos}:(backTo pos (starEach [] env)).any (·.1)=false:=rfl
theorem kK{pos:Pos}{e:Expr}(hs:starEach (e::es) env=(false,eval e env)::starEach es env)(h:(backTo pos (starEach es env)).any (·.1)=false):(backTo pos (starEach (e::es) env)).any (·.1)=false:=by
 rw[hs];have e1:backTo pos ((false,eval e env)::starEach es env)=(false,(do let v <- eval e env;standAt pos;pure v:Sem Value))::backTo pos (starEach es env)\/(backTo pos ((false,eval e env)::starEach es env)).any (·.1)=(backTo pos (starEach es env)).any (·.1):=.inr (by unfold backTo;simp);rcases e1 with q|q
 .rw[q,L8,h];rfl
 .rw[q];exact h
end
section
variable{P:Program}{w:World}{K:Fg}{mg:Str->Option Value}
theorem Fun.okM{base:Heap}{x:Str}{st:Stmt}{N ps:List Str}{k:Nat}{b:SF}{f:Addr}{fd:FuncData}(F:Fun K x x st f fd)(S:aS N ps (aH st))
 (hbody:∀(f:Addr)(cdv:Value)(A:Around)(outer:List Env)(s:Shared)(H:Hp)(E:XK),bS k (A.deeper (envOfC x (aH st) s.heap.objs.size f cdv))->
  ∃t,PSs (kR CX0 P w K mg base N x (aH st) f cdv A outer s H E).nox (bF st) t/\SS K t b):gP P w K mg base CX0 (k+1) f fd ps (spM K (fnF ps.length N.length b)):=by
 have len:∀vs H Q E,spM K (fnF ps.length N.length b) vs H Q E->vs.length=ps.length:=fun vs H Q E h=>by
  obtain⟨xs,M,W,y,M',G,R,hf,_⟩:=h;by_cases hl:xs.length=ps.length
  .rw[<- Paired.len R];exact hl
  .unfold fnF at hf;rw[A5 hl]at hf;cases hf
 refine F.ok S len fun cdv A outer s H vs Q E hr h=>?_;obtain⟨t,hP,hS⟩:=hbody f cdv A outer s H E hr;refine⟨t,hP,?_⟩;obtain⟨xs,M,W,y,M',G,R,hf,k⟩:=h;by_cases hl:xs.length=ps.length
 .unfold fnF at hf;rw[A4 hl]at hf;obtain⟨⟨o,M1⟩,h1,hf⟩:=aG hf
  have hR:cF K W (xs.map some++List.replicate (N.length-xs.length) none) (start N vs):=by
   unfold start;rw[<- Paired.len R];exact Paired.app (bM.some R) (pU _)
  refine hS _ _ _ _ h1 W H _ _ G hR fun W1 H1 e1 G1=>?_;cases o with
  |rt x=>cases hf;exact fun v r=>k v W1 H1 e1 G1 r
  |nx γ=>cases hf;exact fun σ r=>k .non W1 H1 e1 G1 rfl
  |bk γ=>cases hf
  |ct γ=>cases hf
 .unfold fnF at hf;rw[A5 hl]at hf;cases hf
theorem Def.okL{x p:Str}{st:Stmt}{N:List Str}{k:Nat}{b:SF}{F:FN}(D:Def K mg x st)(S:aS N [p] (aH st))(hF:F=fnF 1 N.length b)
 (hb:∀(kV doc pm:Value)(an:Option Addr)(cdv ct:Value)(us:List Value),us.length=[p].length->bindArgs (PySem.W.fnOf x x (cR st) (bF st) (aH st) .none kV doc pm an cdv ct) ⟨us,[]⟩=pure ([p].zip us))
 (hbody:∀(base:Heap)(f:Addr)(cdv:Value)(A:Around)(outer:List Env)(s:Shared)(H:Hp)(E:XK),bS k (A.deeper (envOfC x (aH st) s.heap.objs.size f cdv))->
  ∃t,PSs (kR CX0 P w K mg base N x (aH st) f cdv A outer s H E).nox (bF st) t/\SS K t b):
 ∃f fd,mg x=some (.ref f)/\(∀(s:Shared)(u:Value),BindsTo s fd ⟨[u],[]⟩ [(p,u)])/\∀base,gP P w K mg base CX0 (k+1) f fd [p] (spM K F):=by
 subst hF;obtain⟨f,fd,Fu,m⟩:=D.ex;refine⟨f,fd,m,fun s u=>?_,fun base=>Fu.okM S (hbody base)⟩;obtain⟨oc,od,kV,doc,pm,an,cdv,ct,osl,rfl,lk,hcd⟩:=Fu.ex;exact .of_eq (hb kV doc pm an cdv ct [u] rfl)
theorem HH{H:Hp}:∀ns:List Int,aK K H (ns.map .int) (ns.map V.int)
 |[]=>rfl
 |n::ns=>⟨.int n,ns.map V.int,rfl,rfl,HH ns⟩
theorem aFW{F:FN}(hF:∀ns:List Int,ns.length<=63->∃M',F [.d (.list (ns.map .int))] []=some (.d (.bool true),M')){a:Addr}{ns:List Int}(hl:ns.length<=63)(hS:SqL K H a (ns.map V.int))(E:XK):
 spM K F [.ref a] H (fun v _=>v=.bl true) E:=by
 obtain⟨M',h⟩:=hF ns hl;refine⟨[.d (.list (ns.map .int))],[],⟨H,fun _=>0,0⟩,_,M',⟨iD.refl H,rfl,fun i c h=>by simp at h,fun i j c c' h=>by simp at h⟩,.cons (show ∃a' vs,V.ref a=.ref a'/\SqL K H a' vs/\aK K H (ns.map .int) vs from⟨a,ns.map V.int,rfl,hS,HH ns⟩) .nil,h,fun v W' H' _ _ r=>r⟩
theorem law_walk{l:PySem.W.OpenLaw}{q:Program}{loose:List Str}{XP:(Str->Option Value)->Heap->Prop}{YP:World->Heap->Prop}{d:DefRec}{K:Params->Fg}{F:FN}{k:Nat}{p:Str}(hq:PyProof.Rows.importsNone q=true)(hn:l.most=some 63)(hdf:d.params.defaults=[])(hr:bS k callerA)
 (hY:∀(w:World)(h:Heap),YP w h->(K w.params).In h)
 (hT:∀(w:World)(mg:Str->Option Value)(h:Heap),(K w.params).In h->h.Ns mainGlobals mg->∃f fd,mg d.name=some (.ref f)/\(∀(s:Shared)(u:Value),BindsTo s fd ⟨[u],[]⟩ [(p,u)])/\∀base,gP l.prog w (K w.params) mg base CX0 k f fd [p] (spM (K w.params) F))
 (hF:∀ns:List Int,ns.length<=63->∃M',F [.d (.list (ns.map .int))] []=some (.d (.bool true),M')):
 PySem.W.WalkO q loose XP YP l.row.toRowW d [] (fun f vs=>PySem.call f vs):=
 L2.walk_of hq (n:=63) (k:=k) (x:=p) (CX:=fun _=>CX0) (sp:=fun w=>spM (K w.params) F) hn (by decide) hdf hr hY
  (fun w mg fa h KX G hmg=>by
   obtain⟨f,fd,m,hb,hf⟩:=hT w mg h KX G;have e:(some (Value.ref f))=some (.ref fa):=m.symm.trans hmg;cases e;exact⟨fd,hb,fun base _ _=>hf base⟩)
  (fun w H a ns hl _ hS=>aFW hF hl hS _) fun _ _ _ _ _ z=>z
end
noncomputable def BX(e:Expr)(es:List Expr):Prop:=∀env:Env,starEach (e::es) env=(false,eval e env)::starEach es env
noncomputable def HN:List Expr->Prop
 |[]=>True
 |e::es=>BX e es/\HN es
theorem HN.plain:∀{es:List Expr},HN es->∀(env:Env)(pos:Pos),(backTo pos (starEach es env)).any (·.1)=false
 |[]=>fun _ _ _=>rfl
 |_::_=>fun h env pos=>kK (h.1 env) (h.2.plain env pos)
section
variable{ι:Type}
structure ME(K:Fg)(X:ι->Cx)(e:Expr)(f:EF):Prop where
 ex:∃t,(∀i,PE (X i) e t)/\SE K t f
structure MT(K:Fg)(X:ι->Cx)(e:Expr)(f:TF):Prop where
 ex:∃t,(∀i,PT (X i) e t)/\STt K t f
structure MW(K:Fg)(X:ι->Cx)(e:Expr)(f:TF):Prop where
 ex:∃t,(∀i,PW (X i) e t)/\STt K t f
structure MA(K:Fg)(X:ι->Cx)(es:List Expr)(f:AF):Prop where
 ex:∃t,(∀i,PA (X i) es t)/\SA K t f
 st:HN es
structure MG(K:Fg)(X:ι->Cx)(e:Expr)(f:GF):Prop where
 ex:∃t,(∀i,PG (X i) e t)/\SG K t f
structure MGs(K:Fg)(X:ι->Cx)(es:List Expr)(f:GsF):Prop where
 ex:∃t,(∀i,PGs (X i) es t)/\SGs K t f
structure MI(K:Fg)(X:ι->Cx)(tg e:Expr)(f:AF):Prop where
 ex:∃t,(∀i,PI (X i) tg e t)/\SI K t f
structure MF(K:Fg)(X:ι->Cx)(es:List Expr)(f:TF):Prop where
 ex:∃t,(∀i,IZ (X i) es t)/\STt K t f
structure MS(K:Fg)(X:ι->Cx)(st:Stmt)(f:SF):Prop where
 ex:∃t,(∀i,PS (X i) st t)/\SS K t f
structure ML(K:Fg)(X:ι->Cx)(st:List Stmt)(f:SF):Prop where
 ex:∃t,(∀i,PSs (X i) st t)/\SS K t f
structure Q2(K:Fg)(X:ι->Cx)(o:Value->Value->Sem Value)(h:F2):Prop where
 ex:∃r,(∀i,OpR (X i) o r)/\P2 K r h
structure Q1(K:Fg)(X:ι->Cx)(o:Value->Sem Value)(h:F1):Prop where
 ex:∃r,(∀i,UnR (X i) o r)/\P1 K r h
structure QN(K:Fg)(X:ι->Cx)(f:Value)(h:FN):Prop where
 ex:∃r,(∀i,eD (X i) f r)/\PN K r h
structure QI(K:Fg)(X:ι->Cx)(h:F2):Prop where
 ex:∃r,(∀i,IxR (X i) r)/\P2 K r h
structure QS(K:Fg)(X:ι->Cx)(h:F3):Prop where
 ex:∃r,(∀i,aFl (X i) r)/\P3 K r h
variable{K:Fg}{X:ι->Cx}{a b c e:Expr}{es:List Expr}{f g h:EF}{ft gt:TF}{fa:AF}{pos:Pos}
theorem aC(i:Nat){x:Str}(hN:∀j,(X j).N[i]?=some x:=by intro _;rfl)(hv:∀j,Vis (X j).env.scope x:=by intro _;first|exact Or.inl rfl|exact Or.inr (Or.inl rfl)|exact Or.inr (Or.inr rfl))(hd:(x==("__debug__":Str))=false:=by decide)(hcd:(x==("__classdict__":Str))=false:=by decide):
 ME K X (.Name x pos) (aD i):=⟨_,fun j=>aEh (hN j) (hv j) hd hcd,aFC⟩
theorem aE{i:Int}{j:Nat}:ME K X (.Constant (.int i) j pos) (fC (.int i)):=⟨_,fun _=>aFo,YE⟩
theorem eN{i:Bool}{j:Nat}:ME K X (.Constant (.bool i) j pos) (fC (.bool i)):=⟨_,fun _=>aIC,aIe⟩
theorem vG{j:Nat}:ME K X (.Constant .none j pos) (fC .none):=⟨_,fun _=>aFF,aFh⟩
theorem fR{i:Str}{j:Nat}:ME K X (.Constant (.str i) j pos) (fC (.str i)):=⟨_,fun _=>aEI,aGN⟩
theorem yH{x:Str}{n:Int}(hm:∀i,∃t:Tok,(X i).mg x=some (.int n t))(hg:∀i,Gl (X i) x:=by intro _;rfl)(hd:(x==("__debug__":Str))=false:=by decide):ME K X (.Name x pos) (fC (.int n)):=
 ⟨_,fun i=>PX (v:=.int n) (hg i) (hm i).choose_spec ⟨_,rfl⟩ hd,YE⟩
theorem bA{op:Operator}{k:F2}(q:Q2 K X (binaryOp op) k)(x:ME K X a f)(y:ME K X b g):ME K X (.BinOp a op b pos) (fOp k f g):=by
 obtain⟨r,q1,q2⟩:=q.ex;obtain⟨t,x1,x2⟩:=x.ex;obtain⟨u,y1,y2⟩:=y.ex;exact⟨_,fun i=>aHp (q1 i) (x1 i) (y1 i),QJ q2 x2 y2⟩
theorem JO{op:UnaryOp}{k:F1}(q:Q1 K X (unaryOp op) k)(x:ME K X a f):ME K X (.UnaryOp op a pos) (fUn k f):=by
 obtain⟨r,q1,q2⟩:=q.ex;obtain⟨t,x1,x2⟩:=x.ex;exact⟨_,fun i=>aHB (q1 i) (x1 i),aIs q2 x2⟩
theorem dO{rest:List Expr}(x:ME K X a f)(y:ME K X (.BoolOp .And (b::rest) pos) g):ME K X (.BoolOp .And (a::b::rest) pos) (jV f g):=by
 obtain⟨t,x1,x2⟩:=x.ex;obtain⟨u,y1,y2⟩:=y.ex;exact⟨_,fun i=>aGC (x1 i) (y1 i),aFO x2 y2⟩
theorem aHY{rest:List Expr}(x:ME K X a f)(y:ME K X (.BoolOp .Or (b::rest) pos) g):ME K X (.BoolOp .Or (a::b::rest) pos) (fOr f g):=by
 obtain⟨t,x1,x2⟩:=x.ex;obtain⟨u,y1,y2⟩:=y.ex;exact⟨_,fun i=>aHj (x1 i) (y1 i),aHn x2 y2⟩
theorem fQ{op:BoolOp}(x:ME K X a f):ME K X (.BoolOp op [a] pos) f:=by
 obtain⟨t,x1,x2⟩:=x.ex;exact⟨_,fun i=>aEN (x1 i),x2⟩
theorem MC(x:ME K X a f):ME K X (.UnaryOp .Not a pos) (RS f):=by
 obtain⟨t,x1,x2⟩:=x.ex;exact⟨_,fun i=>aGh (x1 i),aET x2⟩
theorem gQ{op:CmpOp}{k:F2}(q:Q2 K X (compareOp op) k)(x:ME K X a f)(y:ME K X b g)(hm:behindInMarks op b=false:=by rfl):ME K X (.Compare a [op] [b] pos) (fOp k f g):=by
 obtain⟨r,q1,q2⟩:=q.ex;obtain⟨t,x1,x2⟩:=x.ex;obtain⟨u,y1,y2⟩:=y.ex;exact⟨_,fun i=>aBw (q1 i) (x1 i) (y1 i) hm,QJ q2 x2 y2⟩
theorem KR{op op':CmpOp}{k k':F2}(q:Q2 K X (compareOp op) k)(q':Q2 K X (compareOp op') k')(x:ME K X a f)(y:ME K X b g)(z:ME K X c h)(hm:lastMarks [op,op'] [b,c]=false:=by with_unfolding_all rfl):ME K X (.Compare a [op,op'] [b,c] pos) (zH k k' f g h):=by
 obtain⟨r,q1,q2⟩:=q.ex;obtain⟨r',q1',q2'⟩:=q'.ex;obtain⟨t,x1,x2⟩:=x.ex;obtain⟨u,y1,y2⟩:=y.ex;obtain⟨v,z1,z2⟩:=z.ex;exact⟨_,fun i=>UK (q1 i) (q1' i) (x1 i) (y1 i) (z1 i) hm,aAw q2 q2' x2 y2 z2⟩
theorem aHV(x:MT K X c ft)(y:ME K X a f)(z:ME K X b g):ME K X (.IfExp c a b pos) (fIf ft f g):=by
 obtain⟨t,x1,x2⟩:=x.ex;obtain⟨u,y1,y2⟩:=y.ex;obtain⟨v,z1,z2⟩:=z.ex;exact⟨_,fun i=>UX (x1 i) (y1 i) (z1 i),aHG x2 y2 z2⟩
theorem aF:MA K X [] aI:=⟨⟨_,fun _=>pO,aGV⟩,trivial⟩
theorem aA(x:ME K X e f)(y:MA K X es fa)(hs:BX e es:=by intro _;rfl):MA K X (e::es) (aB f fa):=by
 obtain⟨t,x1,x2⟩:=x.ex;obtain⟨u,y1,y2⟩:=y.ex;exact⟨⟨_,fun i=>dU (x1 i) (y1 i) (hs _),aCe x2 y2⟩,hs,y.st⟩
theorem aZ{k:Nat}(x:MA K X es fa):ME K X (.Tuple es k pos) (bR fa):=by
 obtain⟨t,x1,x2⟩:=x.ex;exact⟨_,fun i=>sR (x1 i),aEd x2⟩
theorem gV(x:MA K X es fa):ME K X (.List es pos) (nH fa):=by
 obtain⟨t,x1,x2⟩:=x.ex;exact⟨_,fun i=>WC (x1 i),aGU x2⟩
theorem NX(x:MA K X es fa):ME K X (.List es pos) (uE fa):=by
 obtain⟨t,x1,x2⟩:=x.ex;exact⟨_,fun i=>WC (x1 i),aFi x2⟩
theorem bE{k:F2}(q:QI K X k)(x:ME K X a f)(y:ME K X b g)(hs:OB b:=by intro _ _;rfl):ME K X (.Subscript a b pos) (fOp k f g):=by
 obtain⟨r,q1,q2⟩:=q.ex;obtain⟨t,x1,x2⟩:=x.ex;obtain⟨u,y1,y2⟩:=y.ex;exact⟨_,fun i=>aHg (q1 i) (x1 i) (y1 i) hs,QJ q2 x2 y2⟩
theorem aQ{k:Nat}{x:Str}{ps:List Str}{F:FN}{p:Pos}{q:Bool}(C:∀i,Callee (X i).prog (X i).w (X i).K (X i).mg (X i).base k x ps (spM K F) q)(hr:∀i,bS k (X i).A q)(y:MA K X (e::es) fa)(hg:∀i,Gl (X i) x:=by intro _;rfl)(hd:(x==("__debug__":Str))=false:=by decide):
 ME K X (.Call (.Name x p) (e::es) [] pos) (aM F fa):=by
 obtain⟨u,y1,y2⟩:=y.ex;exact⟨_,fun i=>aEB (C i) (hr i) (y1 i) (hg i) hd (y.st.1 _) (y.st.2.plain _ _),aCc y2⟩
theorem bH{x:Str}{id:String}{F:FN}{p:Pos}(q:QN K X (.builtin id) F)(hm:∀i,(X i).mg x=none)(hv:bootBuiltins x=some (.builtin id))(y:MA K X (e::es) fa)(hg:∀i,Gl (X i) x:=by intro _;rfl)(hn:x≠"__name__":=by decide)(hd:(x==("__debug__":Str))=false:=by decide):
 ME K X (.Call (.Name x p) (e::es) [] pos) (aM F fa):=by
 obtain⟨r,q1,q2⟩:=q.ex;obtain⟨u,y1,y2⟩:=y.ex;exact⟨_,fun i=>pW (q1 i) (hg i) (hm i) hv (y1 i) hn hd (y.st.1 _) (y.st.2.plain _ _),aDK q2 y2⟩
theorem jN{x:Str}{id:String}{F:FN}{p:Pos}(q:QN K X (.type id) F)(hm:∀i,(X i).mg x=none)(hv:bootBuiltins x=some (.type id))(y:MA K X (e::es) fa)(hg:∀i,Gl (X i) x:=by intro _;rfl)(hn:x≠"__name__":=by decide)(hd:(x==("__debug__":Str))=false:=by decide):
 ME K X (.Call (.Name x p) (e::es) [] pos) (aM F fa):=by
 obtain⟨r,q1,q2⟩:=q.ex;obtain⟨u,y1,y2⟩:=y.ex;exact⟨_,fun i=>CW (q1 i) (hg i) (hm i) hv (y1 i) hn hd (y.st.1 _) (y.st.2.plain _ _),aDK q2 y2⟩
theorem vO{T:String}{y:Str}{p p':Pos}(hK:∀i,(X i).K=K)(hT:T∈asked)(x:ME K X a f)(hs:BX a [.Name y p'])(hm:∀i,(X i).mg "isinstance"=none)(hmy:∀i,(X i).mg y=none)(hb:bootBuiltins y=some (.type T))(hg:∀i,Gl (X i) "isinstance":=by intro _;rfl)(hgy:∀i,Gl (X i) y:=by intro _;rfl)
 (hn:y≠"__name__":=by decide) (hd:(y==("__debug__":Str))=false:=by decide):ME K X (.Call (.Name "isinstance" p) [a,.Name y p'] [] pos) (FO T f):=by
 obtain⟨t,x1,x2⟩:=x.ex;refine⟨_,fun i=>pW (aHr (hK i)) (hg i) (hm i) boot_isinstance (dU (x1 i) (dU (uD (v:=.ty T) (hgy i) (hmy i) hb rfl hn hd) pO aX) (hs _)) (by decide) (by decide) (hs _) (kK aX rK),aFm hT x2⟩
theorem gY(x:MT K X a ft):MT K X (.UnaryOp .Not a pos) (pC ft):=by
 obtain⟨t,x1,x2⟩:=x.ex;exact⟨_,fun i=>aEw (x1 i),aGo x2⟩
theorem qJ{rest:List Expr}(x:MT K X a ft)(y:MW K X (.BoolOp .Or (b::rest) pos) gt):MW K X (.BoolOp .Or (a::b::rest) pos) (gOr ft gt):=by
 obtain⟨t,x1,x2⟩:=x.ex;obtain⟨u,y1,y2⟩:=y.ex;exact⟨_,fun i=>aHo (x1 i) (y1 i),aHN x2 y2⟩
theorem sV(x:MT K X a ft):MW K X (.BoolOp .Or [a] pos) ft:=by
 obtain⟨t,x1,x2⟩:=x.ex;exact⟨_,fun i=>aEX (x1 i),x2⟩
theorem NC(x:MW K X a ft):MT K X a ft:=by
 obtain⟨t,x1,x2⟩:=x.ex;exact⟨_,fun i=>(x1 i).pt,x2⟩
theorem bX{op:CmpOp}{k:F2}(q:Q2 K X (compareOp op) k)(x:ME K X a f)(y:ME K X b g)(hm:behindInMarks op b=false:=by rfl):MT K X (.Compare a [op] [b] pos) (gB (fOp k f g)):=by
 obtain⟨r,q1,q2⟩:=q.ex;obtain⟨t,x1,x2⟩:=x.ex;obtain⟨u,y1,y2⟩:=y.ex;exact⟨_,fun i=>aCR (q1 i) (x1 i) (y1 i) hm,aCF (QJ q2 x2 y2)⟩
theorem gX(x:ME K X a f)(he:∀(env:Env)(whole:Sem Value),isTrue a env whole=(do let v <- whole;standAt a.pos;holding [v] (truthy v)):=by intro _ _;rfl):MT K X a (gB f):=by
 obtain⟨t,x1,x2⟩:=x.ex;exact⟨_,fun i=>aGj (x1 i) (he _),aFf x2⟩
theorem aGO(hK:∀i,(X i).K=K)(x:ME K X a f)(he:∀(env:Env)(whole:Sem Value),isTrue a env whole=(do let v <- whole;standAt a.pos;holding [v] (truthy v)):=by intro _ _;rfl):MT K X a (LO f):=by
 obtain⟨t,x1,x2⟩:=x.ex;exact⟨_,fun i=>aCk (hK i) (x1 i) (he _),aCJ x2⟩
theorem tU{tg:Expr}{p:Pos}(hm:∀i,(X i).mg "range"=none)(x:MA K X [a] fa)(hg:∀i,Gl (X i) "range":=by intro _;rfl):MI K X tg (.Call (.Name "range" p) [a] [] pos) (kY fa):=by
 obtain⟨t,x1,x2⟩:=x.ex;exact⟨_,fun i=>RZ (hg i) (hm i) (x1 i) (x.st.1 _),aCY x2⟩
theorem oW{tg:Expr}(hK:∀i,(X i).K=K)(x:ME K X a f):MI K X tg a (dA f):=by
 obtain⟨t,x1,x2⟩:=x.ex;exact⟨_,fun i=>aCr (hK i) (x1 i),aGp x2⟩
theorem bO(i:Nat){x:Str}(hN:∀j,(X j).N.Nodup)(hi:∀j,(X j).N[i]?=some x:=by intro _;rfl)(hx:∀j,Loc (X j).env.scope x:=by intro _;first|exact Or.inl rfl|exact Or.inr rfl)(hf:∀j,(X j).fn x=true\/(X j).env.scope.names.lookup x=some .local:=by intro _;first|exact .inl rfl|exact .inr rfl):
 MG K X (.Name x pos) (hName i):=⟨_,fun j=>aCm (hN j) (hi j) (hx j) (hf j),tQ⟩
theorem nA:MGs K X [] oR:=⟨_,fun _=>aCu,aCi⟩
theorem cO{gf:GF}{gs:GsF}(x:MG K X e gf)(y:MGs K X es gs)(hs:∀env:Env,(assignEach (e::es) env).map (·.2)=assign e env::(assignEach es env).map (·.2):=by intro _;rfl):MGs K X (e::es) (bZ gf gs):=by
 obtain⟨t,x1,x2⟩:=x.ex;obtain⟨u,y1,y2⟩:=y.ex;exact⟨_,fun i=>UF (x1 i) (y1 i) (hs _),ZE x2 y2⟩
theorem vK{gs:GsF}{k n:Nat}(hK:∀i,(X i).K=K)(hc:∀i,(X i).calm=true)(x:MGs K X es gs)(hn:∀env:Env,(assignEach es env).length=n:=by intro _;rfl)(hst:∀env:Env,(assignEach es env).findIdx? (·.1)=none:=by intro _;rfl):MG K X (.Tuple es k pos) (sJ n gs):=by
 obtain⟨t,x1,x2⟩:=x.ex;exact⟨_,fun i=>PF (hK i) (hc i) (x1 i) (hn _) (hst _),aGw x2⟩
theorem LB{s:F3}(q:QS K X s)(x:ME K X a f)(y:ME K X b g) (hs:∀(env:Env)(v:Value),assign (.Subscript a b pos) env v=(do
 let ov <- holding [v] (eval a env);let iv <- holding [v,ov] (eval b env)
 standAt pos
 holding [v,ov,iv] (setItem ov iv v)
 release [v,ov,iv] []):=by intro _ _;rfl):MG K X (.Subscript a b pos) (hSub f g s):=by
 obtain⟨r,q1,q2⟩:=q.ex;obtain⟨t,x1,x2⟩:=x.ex;obtain⟨u,y1,y2⟩:=y.ex;exact⟨_,fun i=>aGX (x1 i) (y1 i) (q1 i) (hs _),aEi q2 x2 y2⟩
theorem zR:MF K X [] rN:=⟨_,fun _=>WG,aEx⟩
theorem GO(x:MT K X c ft):MF K X [c] ft:=by
 obtain⟨t,x1,x2⟩:=x.ex;exact⟨_,fun i=>ZQ (x1 i),x2⟩
noncomputable abbrev LcI(ι:Type):Type:=ι×Addr×Shared×Hp×List Addr×List (Addr×Obj)
noncomputable def iR(X:ι->Cx)(N':List Str)(scope:Scope):LcI ι->Cx:=fun j=>eQ (X j.1) N' scope j.2.1 j.2.2.1 j.2.2.2.1 j.2.2.2.2.1 j.2.2.2.2.2
variable{N':List Str}{cap:List (Option Nat)}{scope:Scope}{tg iter elt:Expr}{ifs:List Expr}{gf:GF}
theorem QD(hc:∀i,(X i).calm=true)(S:∀i,oO (X i) N' cap scope)(x:MI K X tg iter fa)(y:MG K (iR X N' scope) tg gf)(z:MF K (iR X N' scope) ifs ft)(w:ME K (iR X N' scope) elt f)(hs:∀(env:Env)(x:Value),foldedSetIterable iter env x=pure x:=by intro _ _;rfl):
 ME K X (.ListComp elt [⟨tg,iter,ifs,0⟩] scope pos) (fLc cap fa gf ft f):=by
 obtain⟨t,x1,x2⟩:=x.ex;obtain⟨u,y1,y2⟩:=y.ex;obtain⟨v,z1,z2⟩:=z.ex;obtain⟨o,w1,w2⟩:=w.ex;exact⟨_,fun i=>aDo (hc i) (S i) (x1 i) (fun C s H fp pn=>y1 (i,C,s,H,fp,pn)) (fun C s H fp pn=>z1 (i,C,s,H,fp,pn)) (fun C s H fp pn=>w1 (i,C,s,H,fp,pn)) (hs _),aDh x2 y2 z2 w2⟩
theorem JL(i:Nat){x':Str}{pos' pos'':Pos}(hN:∀j,(X j).N.Nodup)(hc:∀i,(X i).calm=true)(S:∀i,oO (X i) N' cap scope)(x:MI K X tg iter fa)(y:MG K (iR X N' scope) tg gf)(z:MF K (iR X N' scope) ifs ft)(w:ME K (iR X N' scope) elt f)
 (hix:∀j,(X j).N[i]?=some x':=by intro _;rfl) (hsw:∀j,swapsWith (.ListComp elt [⟨tg,iter,ifs,0⟩] scope pos) (some (.Name x' pos')) pos''.line (X j).env=pure true:=by intro _;rfl) (hx:∀j,(X j).env.scope.names.lookup x'=some .local:=by intro _;rfl) (hs:∀(env:Env)(x:Value),foldedSetIterable iter env x=pure x:=by intro _ _;rfl):
 MS K X (.Assign [.Name x' pos'] (.ListComp elt [⟨tg,iter,ifs,0⟩] scope pos) pos'') (cN (fLc cap fa gf ft f) (hName i)):=by
 obtain⟨t,x1,x2⟩:=x.ex;obtain⟨u,y1,y2⟩:=y.ex;obtain⟨v,z1,z2⟩:=z.ex;obtain⟨o,w1,w2⟩:=w.ex;exact⟨_,fun j=>IK (hN j) (hix j) (hc j) (S j) (x1 j) (fun C s H fp pn=>y1 (j,C,s,H,fp,pn)) (fun C s H fp pn=>z1 (j,C,s,H,fp,pn)) (fun C s H fp pn=>w1 (j,C,s,H,fp,pn)) (hsw j) (hx j) (hs _),FJ (aDh x2 y2 z2 w2) tQ⟩
theorem SJ(i:Nat){x':Str}{pos' pos'':Pos}(hN:∀j,(X j).N.Nodup)(hc:∀i,(X i).calm=true)(S:∀i,oO (X i) N' cap scope)(x:MI K X tg iter fa)(y:MG K (iR X N' scope) tg gf)(z:MF K (iR X N' scope) ifs ft)(w:ME K (iR X N' scope) elt f)
 (hix:∀j,(X j).N[i]?=some x':=by intro _;rfl) (hsw:∀j,swapsWith (.ListComp elt [⟨tg,iter,ifs,0⟩] scope pos) (some (.Name x' pos')) pos''.line (X j).env=pure true:=by intro _;rfl) (hx:∀j,(X j).env.scope.names.lookup x'=some .local:=by intro _;rfl) (hs:∀(env:Env)(x:Value),foldedSetIterable iter env x=pure x:=by intro _ _;rfl):
 MS K X (.Assign [.Name x' pos'] (.ListComp elt [⟨tg,iter,ifs,0⟩] scope pos) pos'') (cN (aAW cap fa gf ft f) (hName i)):=by
 obtain⟨t,x1,x2⟩:=x.ex;obtain⟨u,y1,y2⟩:=y.ex;obtain⟨v,z1,z2⟩:=z.ex;obtain⟨o,w1,w2⟩:=w.ex;exact⟨_,fun j=>IK (hN j) (hix j) (hc j) (S j) (x1 j) (fun C s H fp pn=>y1 (j,C,s,H,fp,pn)) (fun C s H fp pn=>z1 (j,C,s,H,fp,pn)) (fun C s H fp pn=>w1 (j,C,s,H,fp,pn)) (hsw j) (hx j) (hs _),FJ (aGk x2 y2 z2 w2) tQ⟩
variable{st:Stmt}{sts:List Stmt}{sf sg:SF}
theorem cE:ML K X [] cZ:=⟨_,fun _=>aAQ,aCU⟩
theorem aT(x:MS K X st sf):ML K X [st] sf:=by
 obtain⟨t,x1,x2⟩:=x.ex;exact⟨_,fun i=>OS (x1 i),x2⟩
theorem aN(x:MS K X st sf)(y:ML K X sts sg):ML K X (st::sts) (bK sf sg):=by
 obtain⟨t,x1,x2⟩:=x.ex;obtain⟨u,y1,y2⟩:=y.ex;exact⟨_,fun i=>IY (x1 i) (y1 i),aEA x2 y2⟩
theorem aY(x:ME K X e f):MS K X (.Return (some e) pos) (cG f):=by
 obtain⟨t,x1,x2⟩:=x.ex;exact⟨_,fun i=>VS (x1 i),aFq x2⟩
theorem OI(x:ME K X e f)(hs:∀i,swapsWith e none pos.line (X i).env=pure false:=by intro _;rfl):MS K X (.Expr e pos) (AR f):=by
 obtain⟨t,x1,x2⟩:=x.ex;exact⟨_,fun i=>OQ (x1 i) (hs i),aBV x2⟩
theorem eW{sts':List Stmt}(x:MT K X c ft)(y:ML K X sts sf)(z:ML K X sts' sg):MS K X (.If c sts sts' pos) (sIf ft sf sg):=by
 obtain⟨t,x1,x2⟩:=x.ex;obtain⟨u,y1,y2⟩:=y.ex;obtain⟨v,z1,z2⟩:=z.ex;exact⟨_,fun i=>aDl (x1 i) (y1 i) (z1 i),aIm x2 y2 z2⟩
theorem HM(hp:∀i,PassesOwn (model (X i).prog (X i).w) (X i).A (X i).env (X i).xe)(x:MT K X c ft)(y:ML K X sts sf):MS K X (.While c sts [] pos) (sY ft sf):=by
 obtain⟨t,x1,x2⟩:=x.ex;obtain⟨u,y1,y2⟩:=y.ex;exact⟨_,fun i=>VA (hp i) (x1 i) (y1 i),UJ x2 y2⟩
theorem zX(hp:∀i,PassesOwn (model (X i).prog (X i).w) (X i).A (X i).env (X i).xe)(hc:∀i,(X i).calm=true)(x:MI K X tg iter fa)(y:MG K X tg gf)(z:ML K X sts sf)(hs:∀(env:Env)(x:Value),foldedSetIterable iter env x=pure x:=by intro _ _;rfl):MS K X (.For tg iter sts [] pos) (xK fa gf sf):=by
 obtain⟨t,x1,x2⟩:=x.ex;obtain⟨u,y1,y2⟩:=y.ex;obtain⟨v,z1,z2⟩:=z.ex;exact⟨_,fun i=>WA (hp i) (hc i) (x1 i) (y1 i) (z1 i) (hs _),aDV x2 y2 z2⟩
theorem bG(i:Nat){x':Str}{pos':Pos}(hN:∀j,(X j).N.Nodup)(x:ME K X e f)(hi:∀j,(X j).N[i]?=some x':=by intro _;rfl)(hx:∀j,Loc (X j).env.scope x':=by intro _;first|exact Or.inl rfl|exact Or.inr rfl)(hs:∀j,swapsWith e (some (.Name x' pos')) pos.line (X j).env=pure false:=by intro _;rfl)
 (hf:∀j,(X j).fn x'=true\/(X j).env.scope.names.lookup x'=some .local:=by intro _;first|exact .inl rfl|exact .inr rfl):MS K X (.Assign [.Name x' pos'] e pos) (cN f (hName i)):=by
 obtain⟨t,x1,x2⟩:=x.ex;exact⟨_,fun j=>WK (hN j) (hi j) (hx j) (x1 j) (hs j) (hf j),FJ x2 tQ⟩
theorem VQ(i j:Nat){x' y':Str}{px py pt pt2:Pos}{kt k2:Nat}(hc:∀j,(X j).calm=true)(hN:∀j,(X j).N.Nodup)(x:MA K X [a,b] fa)(hij:i≠j:=by decide)(hi:∀k,(X k).N[i]?=some x':=by intro _;rfl)(hj:∀k,(X k).N[j]?=some y':=by intro _;rfl)(hx:∀k,(X k).env.scope.names.lookup x'=some .local:=by intro _;rfl)(hy:∀k,(X k).env.scope.names.lookup y'=some .local:=by intro _;rfl)
 (h1:∀k,swappedStores [.Tuple [.Name x' px,.Name y' py] kt pt] (.Tuple [a,b] k2 pt2) (X k).env=pure (some [x',y']):=by intro _;rfl) (h2:∀k,swapsWithSole [.Tuple [.Name x' px,.Name y' py] kt pt] (.Tuple [a,b] k2 pt2) pos.line (X k).env=pure false:=by intro _;rfl):
 MS K X (.Assign [.Tuple [.Name x' px,.Name y' py] kt pt] (.Tuple [a,b] k2 pt2) pos) (HS i j fa):=by
 obtain⟨t,x1,x2⟩:=x.ex;exact⟨_,fun k=>aEc (hc k) (hN k) (hi k) (hj k) hij (hx k) (hy k) (x1 k) (h1 k) (h2 k),aEL x2⟩
theorem AQ(x:ME K X e f)(y:MG K X tg gf)(h1:∀k,swapsWithSole [tg] e pos.line (X k).env=pure false:=by intro _;rfl)(h2:∀k,swappedStores [tg] e (X k).env=pure none:=by intro _;rfl)(h3:∀env:Env,(assignEach [tg] env).map (·.2)=[assign tg env]:=by intro _;rfl):MS K X (.Assign [tg] e pos) (cN f gf):=by
 obtain⟨t,x1,x2⟩:=x.ex;obtain⟨u,y1,y2⟩:=y.ex;exact⟨_,fun k=>aGJ (x1 k) (y1 k) (h1 k) (h2 k) (h3 _),FJ x2 y2⟩
theorem fJ(hK:∀i,(X i).K=K:=by intro _;rfl):Q2 K X (binaryOp .Add) dW:=⟨_,fun i=>aIw (hK i),QT⟩
theorem zI:Q2 K X (binaryOp .Sub) vJ:=⟨_,fun _=>aGA,aGe⟩
theorem JW:Q2 K X (binaryOp .Mult) ID:=⟨_,fun _=>aCE,aFP⟩
theorem NN:Q2 K X (binaryOp .FloorDiv) EM:=⟨_,fun _=>ZJ,aAM⟩
theorem oH:Q2 K X (binaryOp .Mod) oQ:=⟨_,fun _=>aFS,aFv⟩
theorem sE:Q2 K X (binaryOp .Pow) vC:=⟨_,fun _=>aFG,aFU⟩
theorem JK:Q1 K X (unaryOp .USub) CM:=⟨_,fun _=>aFV,aFJ⟩
theorem CP:Q2 K X (compareOp .Lt) ltI:=⟨_,fun _=>aHm,aHz⟩
theorem YF:Q2 K X (compareOp .LtE) leI:=⟨_,fun _=>aHs,aIf⟩
theorem aFr:Q2 K X (compareOp .Gt) gtI:=⟨_,fun _=>aHq,aIi⟩
theorem aIg:Q2 K X (compareOp .GtE) geI:=⟨_,fun _=>aHa,aHX⟩
theorem oP(hK:∀i,(X i).K=K)(hu:∀i,(X i).A.units+64<cLine):Q2 K X (compareOp .Eq) (eqX false):=⟨_,fun i=>kEq (hK i) (hu i),aFt⟩
theorem FG(hK:∀i,(X i).K=K)(hu:∀i,(X i).A.units+64<cLine):Q2 K X (compareOp .NotEq) (eqX true):=⟨_,fun i=>kNe (hK i) (hu i),UE⟩
theorem cM(hK:∀i,(X i).K=K:=by intro _;rfl):QI K X ixF:=⟨_,fun i=>kIx (hK i),aEk⟩
theorem EC(hK:∀i,(X i).K=K:=by intro _;rfl):QN K X (.builtin "len") mB:=⟨_,fun i=>aIQ (hK i),aBa⟩
theorem aGL(hK:∀i,(X i).K=K):QN K X (.type "list") ED:=⟨_,fun i=>aDE (hK i),aAp⟩
theorem xU(hK:∀i,(X i).K=K):QN K X (.type "tuple") hJ:=⟨_,fun i=>aGt (hK i),SY⟩
theorem aHl(hK:∀i,(X i).K=K)(hc:∀i,(X i).calm=true):QN K X (.builtin "all") LK:=⟨_,fun i=>aIG (hK i) (hc i),aBB⟩
theorem aAu:QS K X BF:=⟨_,fun _=>set_list,aFn⟩
end
section
variable{P:Program}{w:World}{K:Fg}{mg:Str->Option Value}
theorem Def.okG{base:Heap}{x:Str}{st:Stmt}{N ps:List Str}{k:Nat}{b:SF}{q:Bool}(D:Def K mg x st)(S:aS N ps (aH st))
 (hb:∀(kV doc pm:Value)(an:Option Addr)(cdv ct:Value)(us:List Value),us.length=ps.length->bindArgs (PySem.W.fnOf x x (cR st) (bF st) (aH st) .none kV doc pm an cdv ct) ⟨us,[]⟩=pure (ps.zip us))
 (hbody:∀(f:Addr)(cdv:Value)(A:Around)(outer:List Env)(s:Shared)(H:Hp)(E:XK),bS k (A.deeper (envOfC x (aH st) s.heap.objs.size f cdv)) q->
  ML K (fun _:Unit=>(kR CX0 P w K mg base N x (aH st) f cdv A outer s H E q).nox) (bF st) b):Callee P w K mg base (k+1) x ps (spM K (fnF ps.length N.length b)) q:=
 D.okM S hb fun f cdv A outer s H E hr=>by
  obtain⟨t,h1,h2⟩:=(hbody f cdv A outer s H E hr).ex;exact⟨t,h1 (),h2⟩
theorem Def.okLG{x p:Str}{st:Stmt}{N:List Str}{k:Nat}{b:SF}{F:FN}(D:Def K mg x st)(S:aS N [p] (aH st))(hF:F=fnF 1 N.length b)
 (hb:∀(kV doc pm:Value)(an:Option Addr)(cdv ct:Value)(us:List Value),us.length=[p].length->bindArgs (PySem.W.fnOf x x (cR st) (bF st) (aH st) .none kV doc pm an cdv ct) ⟨us,[]⟩=pure ([p].zip us))
 (hbody:∀(base:Heap)(f:Addr)(cdv:Value)(A:Around)(outer:List Env)(s:Shared)(H:Hp)(E:XK),bS k (A.deeper (envOfC x (aH st) s.heap.objs.size f cdv))->
  ML K (fun _:Unit=>(kR CX0 P w K mg base N x (aH st) f cdv A outer s H E).nox) (bF st) b):
 ∃f fd,mg x=some (.ref f)/\(∀(s:Shared)(u:Value),BindsTo s fd ⟨[u],[]⟩ [(p,u)])/\∀base,gP P w K mg base CX0 (k+1) f fd [p] (spM K F):=
 D.okL S hF hb fun base f cdv A outer s H E hr=>by
  obtain⟨t,h1,h2⟩:=(hbody base f cdv A outer s H E hr).ex;exact⟨t,h1 (),h2⟩
end
end L2
namespace HT
open PySem PyProof.Rows PySem.Spec
section
variable{prog:Program}{w:World}{A:Around}{E:Value->Shared->Prop}{s:Shared}
theorem getItem_tuple_whole{t sl:Addr}{items:Array Value}{vl vu:Value}{lo hi:Option Int}{Q:Value->Shared->Prop}(ht:IsTup s.heap t items)(hs:s.heap.IsSliceOf sl vl vu .none)(pl:IsPart vl lo)(pu:IsPart vu hi)
 (hw:sIx items.size 0 lo=0/\sIx items.size items.size hi=items.size) (h:Q (.ref t) s):wpAny (model prog w) A (getItem (.ref t) (.ref sl)) Q E s:=by
 obtain⟨os,hos,hcs,hds⟩:=id hs;have hTs:s.TypeIs (.ref sl) "slice":=⟨os,hos,hcs⟩;unfold getItem
 try with_reducible refine D4 ?_
 first|refine A0 (A3 ?_)|skip
 refine A0 (wpAny_sequenceKey ht.typeIs (by decide) ?_)
 refine A0 (J7 (name:=Str.ofString "__getitem__") ht.typeIs L9
  (F7 L9 ht.typeIs entry_tuple_getitem ?_ (args_tuple_getitem _ _)))
 show wpAny _ _ (Builtin.Tuple.tupleItemsOf (.ref t) >>= _) _ _ s;refine A0 (tupleItemsOf_ ht ?_);refine A0 (Y3 hTs ?_);rw[A4 (by decide)];refine A0 (mK hs pl pu ?_)
 have hyes:(((sIx items.size 0 lo:Nat):Int)==0&&(1:Int)==1&&(sIx items.size items.size hi-sIx items.size 0 lo)==items.size)=true:=by
  rw[hw.1,hw.2];simp
 show wpAny _ _ (if (((sIx items.size 0 lo:Nat):Int)==0&&(1:Int)==1&&(sIx items.size items.size hi-sIx items.size 0 lo)==items.size)=true then _ else _) _ _ s;rw[A4 hyes];refine A0 (m:=Builtin.Tuple.tupleIsExact (.ref t)) ?_;unfold Builtin.Tuple.tupleIsExact;refine A0 (Y3 ht.typeIs (A3 ?_));rw[A4 (by decide)];exact A0 (wpAny_rule (A3 ⟨_,rfl,A3 h⟩))
end
end HT
namespace L2
variable{W:Wd}{M:Sto}{H:Hp}{K:Fg}{pos:Pos}
open PySem PySem.Spec PyProof.Rows
noncomputable def aIq(K:Fg):V->Option Int->Option Int->Hp->VK->Prop:=fun x lo hi H Q=>∃a xs,x=.ref a/\SqT K H a xs/\(HT.sIx xs.length 0 lo=0/\HT.sIx xs.length xs.length hi=xs.length)/\Q (.ref a) H
theorem XI{X:Cx}:SlR X (aIq X.K):=by
 intro pins s σ H x v vl vu lo hi sl Q I rx hs pl pu h;obtain⟨a,xs,rfl,hx,hw,q⟩:=h;cases rx;obtain⟨its,r,ht,hz⟩:=I.tuple hx;have hlen:its.toArray.size=xs.length:=by rw[C5];exact r.length.symm
 refine⟨"tuple",_,PyProof.Rows.slot_tuple_getitem.lookup,ht.typeIs,?_⟩;exact HT.getItem_tuple_whole ht hs pl pu (by rw[hlen];exact hw) ⟨.ref a,H,I,rfl,q⟩
noncomputable def fS{α:Type}(xs:List α)(lo hi:Option Int):List α:=(xs.drop (HT.sIx xs.length 0 lo)).take (HT.sIx xs.length xs.length hi-HT.sIx xs.length 0 lo)
noncomputable abbrev OF:=Ga->Sto->Option (Option Int×Sto)
noncomputable def eO:OF:=fun _ M=>some (none,M)
noncomputable def asI:CD->Option Int
 |.d (.int i)=>some i
 |_=>none
noncomputable def lB(f:EF):OF:=fun γ M=>(f γ M).bind fun r=>(asI r.1).bind fun i=>some (some i,r.2)
noncomputable def slF(x:CD)(lo hi:Option Int)(M:Sto):Option (CD×Sto):=match x with
 |.d (.list ds)=>some (.d (.list (fS ds lo hi)),M)
 |.d (.tuple ds)=>some (.d (.tuple (fS ds lo hi)),M)
 |.c i=>match M[i]? with
  |some (.lst xs)=>(hV (fS xs lo hi)).bind fun ds=>some (.d (.list ds),M)
  |_=>none
 |_=>none
noncomputable def fSl(f:EF)(l u:OF):EF:=fun γ M=>(f γ M).bind fun r=>(l γ r.2).bind fun p=>(u γ p.2).bind fun q=>slF r.1 p.1 q.1 q.2
noncomputable def aGx(K:Fg):V->Option Int->Option Int->Hp->VK->Prop:=fun x lo hi H Q=>aHT K x lo hi H Q\/aHx K x lo hi H Q\/aIq K x lo hi H Q
theorem kSl{X:Cx}(h:X.K=K):SlR X (aGx K):=by subst h;exact sl_list.or (sl_tup.or XI)
section
variable{K:Fg}
noncomputable def SO(K:Fg)(t:TO)(f:OF):Prop:=∀γ M b M',f γ M=some (b,M')->∀(W:Wd)(H:Hp)(σ:St)(Q:Option Int->Hp->Prop),Good K W M H->cF K W γ σ->(∀W' H',W.Ext W'->Good K W' M' H'->Q b H')->t σ H Q
theorem aAS:SO K QL eO:=by
 intro γ M x M' hh W H σ Q G R k;cases hh;exact k W H (.refl _) G
theorem aEf{x:CD}{i:Int}(h:asI x=some i):x=.d (.int i):=by
 cases x with
 |c n=>cases h
 |t n=>cases h
 |f n=>cases h
 |d x=>cases x<;>first|cases h;rfl|cases h
theorem aAU{ta:TE}{f:EF}(a:SE K ta f):SO K (aDL ta) (lB f):=by
 intro γ M x M' hh W H σ Q G R k;obtain⟨⟨y,M1⟩,h1,hh⟩:=aG hh;obtain⟨i,h2,hh⟩:=aG hh;cases hh;refine a _ _ _ _ h1 W H σ _ G R fun v W1 H1 e1 G1 r1=>?_;have hy:y=_:=aEf h2;subst hy;exact⟨i,r1,k W1 H1 e1 G1⟩
theorem aK.drop{H:Hp}:∀{ds:List PyData}{vs:List V}(n:Nat),aK K H ds vs->aK K H (ds.drop n) (vs.drop n)
 |_,_,0=>fun h=>h
 |[],vs,n+1=>fun h=>by rw[show vs=[]from h];rfl
 |d::ds,vs,n+1=>fun h=>by
  obtain⟨v,r,rfl,_,h3⟩:=h;exact aK.drop n h3
theorem aK.take{H:Hp}:∀{ds:List PyData}{vs:List V}(n:Nat),aK K H ds vs->aK K H (ds.take n) (vs.take n)
 |_,_,0=>fun h=>rfl
 |[],vs,n+1=>fun h=>by rw[show vs=[]from h];rfl
 |d::ds,vs,n+1=>fun h=>by
  obtain⟨v,r,rfl,h2,h3⟩:=h;exact⟨v,r.take n,rfl,h2,aK.take n h3⟩
theorem aK.cut{ds:List PyData}{vs:List V}(h:aK K H ds vs)(lo hi:Option Int):aK K H (fS ds lo hi) (vP vs lo hi):=by
 unfold fS vP;rw[h.length];exact(h.drop _).take _
theorem BM{α β:Type}{R:α->β->Prop}:∀{xs:List α}{ys:List β}(n:Nat),Paired R xs ys->Paired R (xs.drop n) (ys.drop n)
 |_,_,0,h=>h
 |_,_,_+1,.nil=>.nil
 |_,_,n+1,.cons _ t=>BM n t
theorem BC{α β:Type}{R:α->β->Prop}:∀{xs:List α}{ys:List β}(n:Nat),Paired R xs ys->Paired R (xs.take n) (ys.take n)
 |_,_,0,h=>.nil
 |_,_,_+1,.nil=>.nil
 |_,_,n+1,.cons r t=>.cons r (BC n t)
theorem SZ{xs:List CD}{vs:List V}(h:bM K W xs vs)(lo hi:Option Int):bM K W (fS xs lo hi) (vP vs lo hi):=by
 unfold fS vP;rw[Paired.len h];exact BC _ (BM _ h)
theorem aAD{x:CD}{lo hi:Option Int}{z:CD}{M':Sto}(h:slF x lo hi M=some (z,M')){v:V}{Q:VK}(G:Good K W M H)(rx:bP K W x v)(k:∀w W' H',W.Ext W'->Good K W' M' H'->bP K W' z w->Q w H'):aGx K v lo hi H Q:=by
 unfold slF at h;split at h
 .rename_i ds;cases h;obtain⟨p,us,rfl,hq,hr⟩:=(show ∃a us,_=V.ref a/\SqL K W.F a us/\aK K W.F ds us from rx);refine .inl ⟨p,us,rfl,G.fh.seq hq,fun l hl=>?_⟩;obtain⟨e2,G2⟩:=G.lay (o:=.lst (vP us lo hi)) hl;exact k _ _ _ e2 G2 ⟨l,_,rfl,SqL.of aP,aK.same e2.ff _ _ (hr.cut lo hi)⟩
 .rename_i ds;cases h;obtain⟨p,us,rfl,hq,hr⟩:=(show ∃a us,_=V.ref a/\SqT K W.F a us/\aK K W.F ds us from rx);by_cases hw:HT.sIx us.length 0 lo=0/\HT.sIx us.length us.length hi=us.length
  .refine .inr (.inr ⟨p,us,rfl,G.fh.seqT hq,hw,?_⟩)
   have e:fS ds lo hi=ds:=by
    unfold fS;rw[hr.length,hw.1,hw.2,<- hr.length];simp
   rw[e]at k;exact k _ W H (.refl _) G ⟨p,us,rfl,hq,hr⟩
  .refine .inr (.inl ⟨p,us,rfl,G.fh.seqT hq,hw,fun l hl=>?_⟩);obtain⟨e2,G2⟩:=G.lay (o:=.tup (vP us lo hi)) hl;exact k _ _ _ e2 G2 ⟨l,_,rfl,SqT.of aP,aK.same e2.ff _ _ (hr.cut lo hi)⟩
 .rename_i i;split at h
  .rename_i xs hx;obtain⟨ds,h1,h⟩:=aG h;cases h;obtain⟨us,hv,hr⟩:=G.lstAt hx;rw[rx.2];refine .inl ⟨_,us,rfl,SqL.of hv,fun l hl=>?_⟩;obtain⟨e2,G2⟩:=G.lay (o:=.lst (vP us lo hi)) hl;exact k _ _ _ e2 G2 ⟨l,_,rfl,SqL.of aP,aK.same e2.ff _ _ (cX h1 (SZ hr lo hi))⟩
  .cases h
 .cases h
theorem aHb{ta:TE}{f:EF}{tl th:TO}{l u:OF}(a:SE K ta f)(b:SO K tl l)(c:SO K th u):SE K (tSl (aGx K) ta tl th) (fSl f l u):=by
 intro γ M x M' hh W H σ Q G R k;obtain⟨⟨y,M1⟩,h1,hh⟩:=aG hh;obtain⟨⟨p,M2⟩,h2,hh⟩:=aG hh;obtain⟨⟨q,M3⟩,h3,hh⟩:=aG hh;refine a _ _ _ _ h1 W H σ _ G R fun v W1 H1 e1 G1 r1=>?_;refine b _ _ _ _ h2 W1 H1 σ _ G1 (R.up e1) fun W2 H2 e2 G2=>?_;refine c _ _ _ _ h3 W2 H2 σ _ G2 (R.up (e1.trans e2)) fun W3 H3 e3 G3=>?_;exact aAD hh G3 (r1.up (e2.trans e3)) fun w W4 H4 e4 G4 r4=>k w W4 H4 (((e1.trans e2).trans e3).trans e4) G4 r4
noncomputable def VY:FN:=fun xs M=>match xs with
 |[.d (.int i)]=>some (.d (.int i),M)
 |[.d (.bool b)]=>some (.d (.int (if b then 1 else 0)),M)
 |_=>none
theorem aGQ:PN K (fun xs H Q=>(∃i,xs=[.int i]/\Q (.int i) H)\/∃k,xs=[.bl k]/\Q (.int (if k then 1 else 0)) H) VY:=by
 intro xs M z M' h W H vs Q G r k;unfold VY at h;split at h
 .rename_i i;cases h;rcases r with _|⟨r1,_|_⟩;exact .inl ⟨i,by rw[show _=V.int i from r1],k _ W H (.refl _) G rfl⟩
 .rename_i b;cases h;rcases r with _|⟨r1,_|_⟩;exact .inr ⟨b,by rw[show _=V.bl b from r1],k _ W H (.refl _) G rfl⟩
 .cases h
noncomputable def tyB(T:String)(M:Sto):CD->Bool
 |.d (.list _)=>T=="list"
 |.d (.str _)=>T=="str"
 |.c i=>match M[i]? with
  |some (.lst _)=>T=="list"
  |some (.dk _)=>T=="dict"
  |some (.dt _)=>T=="dict"
  |_=>false
 |_=>false
theorem aEy{T:String}{x:CD}{v:V}(h:tyB T M x=true)(G:Good K W M H)(r:bP K W x v):tyV K T v H:=by
 unfold tyB at h;split at h
 .rename_i ds;obtain⟨p,us,rfl,hq,hr⟩:=(show ∃a us,_=V.ref a/\SqL K W.F a us/\aK K W.F ds us from r);exact .inl ⟨eq_of_beq h,us,G.fh.seq hq⟩
 .rename_i x;rw[show v=.str x from r];exact eq_of_beq h
 .rename_i i;rw[r.2];split at h
  .rename_i xs hx;obtain⟨us,hv,hr⟩:=G.lstAt hx;exact .inl ⟨eq_of_beq h,us,SqL.of hv⟩
  .rename_i kvs hx;obtain⟨_,o,g2,g3⟩:=G.cs i _ hx (by intro z;cases z);cases o with
   |dK us=>exact .inr (.inr (.inl ⟨eq_of_beq h,.inl ⟨us,g2⟩⟩))
   |_=>exact False.elim g3
  .rename_i kvs hx;obtain⟨_,o,g2,g3⟩:=G.cs i _ hx (by intro z;cases z);cases o with
   |dT us=>exact .inr (.inr (.inl ⟨eq_of_beq h,.inr ⟨us,g2⟩⟩))
   |_=>exact False.elim g3
  .cases h
 .cases h
noncomputable abbrev FM:=CD->List CD->Sto->Option (CD×Sto)
noncomputable def uN(T:String)(h:FM)(f:EF)(fa:AF):EF:=fun γ M=>(f γ M).bind fun r=>if tyB T r.2 r.1=true then(fa γ r.2).bind fun q=>h r.1 q.1 q.2 else none
noncomputable def PM(K:Fg)(r:V->List V->Hp->VK->Prop)(f:FM):Prop:=∀x xs M z M',f x xs M=some (z,M')->∀(W:Wd)(H:Hp)(v:V)(vs:List V)(Q:VK),Good K W M H->bP K W x v->bM K W xs vs->(∀w W' H',W.Ext W'->Good K W' M' H'->bP K W' z w->Q w H')->r v vs H Q
theorem aBZ{T:String}{r:V->List V->Hp->VK->Prop}{h:FM}{ta:TE}{f:EF}{tA:TA}{fa:AF}(p:PM K r h)(a:SE K ta f)(b:SA K tA fa):SE K (tBM K T r ta tA) (uN T h f fa):=by
 intro γ M x M' hh W H σ Q G R k;obtain⟨⟨y,M1⟩,h1,hh⟩:=aG hh;by_cases hT:tyB T M1 y=true
 .have hh:(if tyB T M1 y=true then(fa γ M1).bind fun q=>h y q.1 q.2 else none)=some (x,M'):=hh;rw[A4 hT]at hh;obtain⟨⟨ys,M2⟩,h2,hh⟩:=aG hh;refine a _ _ _ _ h1 W H σ _ G R fun v W1 H1 e1 G1 r1=>⟨aEy hT G1 r1,?_⟩;refine b _ _ _ _ h2 W1 H1 σ _ G1 (R.up e1) fun vs W2 H2 e2 G2 r2=>?_;exact p _ _ _ _ _ hh W2 H2 v vs Q G2 (r1.up e2) r2 fun w W3 H3 e3 G3 r3=>k w W3 H3 ((e1.trans e2).trans e3) G3 r3
 .have hh:(if tyB T M1 y=true then(fa γ M1).bind fun q=>h y q.1 q.2 else none)=some (x,M'):=hh;rw[A5 hT]at hh;cases hh
noncomputable def iG:FM:=fun x ys M=>match x,ys with
 |.c i,[y]=>match M[i]? with
  |some (.lst xs)=>if xs.length<sizeLine then some (.d .none,M.set i (.lst (xs++[y])))else none
  |_=>none
 |_,_=>none
theorem RP:PM K OH iG:=by
 intro x ys M z M' h W H v vs Q G rx rs k;unfold iG at h;split at h
 .rename_i i y;split at h
  .rename_i xs hx;by_cases hl:xs.length<sizeLine
   .rw[A4 hl]at h;cases h;obtain⟨us,hv,hr⟩:=G.lstAt hx;rcases rs with _|⟨r1,_|_⟩;refine⟨W.α i,us,_,rx.2,rfl,hv,by rw[<- Paired.len hr];exact hl,?_⟩;exact k _ W _ (.refl _) (G.set hx (by intro q;cases q) (c':=.lst (xs++[y])) (show bM K W _ _ from Paired.app hr (.cons r1 .nil))) rfl
   .rw[A5 hl]at h;cases h
  .cases h
 .cases h
end
section
variable{ι:Type}{K:Fg}{X:ι->Cx}{a b c e o:Expr}{es:List Expr}{f g h:EF}{fa:AF}{pos:Pos}
structure MO(K:Fg)(X:ι->Cx)(e:Option Expr)(f:OF):Prop where
 ex:∃t,(∀i,PO (X i) e t)/\SO K t f
theorem lJ:MO K X none eO:=⟨_,fun _=>aBi,aAS⟩
theorem lN(x:ME K X e f):MO K X (some e) (lB f):=by
 obtain⟨t,x1,x2⟩:=x.ex;exact⟨_,fun i=>aCq (x1 i),aAU x2⟩
theorem wV{lo hi:Option Expr}{l u:OF}{p2:Pos}(hK:∀i,(X i).K=K)(x:ME K X a f)(y:MO K X lo l)(z:MO K X hi u):ME K X (.Subscript a (.Slice lo hi none p2) pos) (fSl f l u):=by
 obtain⟨t,x1,x2⟩:=x.ex;obtain⟨t',y1,y2⟩:=y.ex;obtain⟨t'',z1,z2⟩:=z.ex;exact⟨_,fun i=>ZI (kSl (hK i)) (x1 i) (y1 i) (z1 i),aHb x2 y2 z2⟩
theorem aIl:QN K X (.type "int") VY:=⟨_,fun _=>TB,aGQ⟩
theorem DI{apos cpos:Pos}(hK:∀i,(X i).K=K)(x:ME K X o f)(y:MA K X [e] fa)(hb:∀env:Env,attributeBase o "append" env (eval o env)=eval o env:=by intro _;rfl)(hl:(apos.endLine==cpos.line)=true:=by rfl):
 ME K X (.Call (.Attribute o "append" apos) [e] [] cpos) (uN "list" iG f fa):=by
 obtain⟨t,x1,x2⟩:=x.ex;obtain⟨u,y1,y2⟩:=y.ex;refine⟨_,fun i=>?_,aBZ RP x2 y2⟩;have:=aHI PySem.F.plainAttrs_list PySem.F.slot_list_append PySem.F.type_list_append SL (x1 i) (y1 i) (apos:=apos) (cpos:=cpos) (hb _) (by rw[y.st.1];rfl) hl (y.st.1 _) (y.st.2.plain _ _);rw[hK i]at this;exact this
end
noncomputable def aDU(K:Fg):List V->Hp->VK->Prop:=fun xs H Q=>∃x d,xs=[x]/\Rep K H d x/\d.showable=true/\d.depth<=64/\d.shown.length<=sizeLine/\Q (.str d.shown) H
theorem aHw{X:Cx}(hK:X.K=K)(hg:X.A.guards=some [])(hu:X.A.units+200<cLine):eD X (.builtin "repr") (aDU K):=by
 subst hK;intro pins s σ H xs us Q I r h;obtain⟨x,d,rfl,hd,hs,hp,hz,q⟩:=h;obtain⟨u,rfl,ru⟩:=vals1 r
 have big:∀a,u=.ref a->wpAny (model X.prog X.w) X.A (call (.builtin "repr") [u]) (EP X pins σ Q) X.xe s:=fun a e=>by
  subst e;obtain⟨as,hr,hn⟩:=Rep.reads' I d x _ hd ru;exact repr_of_reads' hr hs (fun _=>hn) hg (by omega) (fun _ _ e=>e) (fun h' u' tk hk=>⟨.str d.shown,H,I.kept (h':=h') (t':=tk) hk,⟨_,rfl⟩,q⟩) hz
 cases d with
 |none=>
  rw[show x=.non from hd]at ru;cases (show u=Value.none from ru);exact PySem.P.repr_of_none ⟨.str _,H,I.tok _,⟨_,rfl⟩,q⟩
 |bool b=>
  rw[show x=.bl b from hd]at ru;cases (show u=Value.bool b from ru);refine PySem.P.repr_of_bool ⟨.str _,H,I.tok _,⟨_,rfl⟩,?_⟩;cases b<;>exact q
 |int i=>
  rw[show x=.int i from hd]at ru;obtain⟨t,rfl⟩:=(show ∃t,u=Value.int i t from ru);exact PySem.P.repr_of_int (C2 hs) ⟨.str _,H,I.tok _,⟨_,rfl⟩,q⟩
 |str y=>
  rw[show x=.str y from hd]at ru;obtain⟨t,rfl⟩:=(show ∃t,u=Value.str y t from ru);exact PySem.P.repr_of_str ⟨.str _,H,I.tok _,⟨_,rfl⟩,q⟩ hz
 |list ds=>obtain⟨a,vs,e,_,_⟩:=hd;subst e;exact big a ru
 |tuple ds=>obtain⟨a,vs,e,_,_⟩:=hd;subst e;exact big a ru
 |dict ds=>obtain⟨a,vs,e,_,_⟩:=hd;subst e;exact big a ru
noncomputable def rA(d:PyData):Bool:=d.showable&&decide (d.depth<=64)&&decide (d.shown.length<=sizeLine)
noncomputable def QG:FN:=fun xs M=>match xs with
 |[.d x]=>if rA x=true then some (.d (.str x.shown),M)else none
 |_=>none
theorem bS.u200{k:Nat}{A:Around}(r:bS k A):A.units+200<cLine:=by have:=r.un;omega
theorem Def.okNone{P:Program}{w:World}{mg:Str->Option Value}{base:Heap}{x:Str}{st:Stmt}{N ps:List Str}{k:Nat}(D:Def K mg x st)(S:aS N ps (aH st))
 (hb:∀(kV doc pm:Value)(an:Option Addr)(cdv ct:Value)(us:List Value),us.length=ps.length->bindArgs (PySem.W.fnOf x x (cR st) (bF st) (aH st) .none kV doc pm an cdv ct) ⟨us,[]⟩=pure (ps.zip us)):
 Callee P w K mg base (k+1) x ps (spM K fun _ _=>none):=by
 refine D.ok S hb (fun vs H Q E h=>?_) fun f cdv A outer s H vs Q E hr h=>?_
 .obtain⟨xs,M,W,y,M',G,R,hf,_⟩:=h;cases hf
 .obtain⟨xs,M,W,y,M',G,R,hf,_⟩:=h;cases hf
theorem Good.freeze(g:Good K W M H){i:Nat}{c:Cell}{o':HO}(hi:M[i]?=some c)(hc:c≠.dead):
 W.Ext { W with F:=upd W.F (W.α i) o' }/\Good K { W with F:=upd W.F (W.α i) o' } (M.set i .dead) (upd H (W.α i) o'):=by
 obtain⟨h1,o,h2,h3⟩:=g.cs i c hi hc;have lt:i<M.length:=(List.getElem?_eq_some_iff.mp hi).1;have e:W.Ext { W with F:=upd W.F (W.α i) o' }:=⟨iD.upd h1,A7 _,fun _ _=>rfl⟩
 have at_:∀j d,(M.set i .dead)[j]?=some d->d≠.dead->j≠i/\M[j]?=some d:=fun j d h hd=>by
  by_cases q:i=j
  .subst q;rw[E1 lt]at h;exact absurd (D2 h).symm hd
  .rw[D7 q]at h;exact⟨fun z=>q z.symm,h⟩
 refine⟨e,?_,by show W.n=_;rw[g.n,Y6],fun j d hj hd=>?_,fun j k d1 d2 hj hk e1 e2 he=>?_⟩
 .intro b u hb;have hb:upd W.F (W.α i) o' b=some u:=hb;by_cases q:b=W.α i
  .subst q;rw[aP]at hb;rw[aP];exact hb
  .rw[aJ q]at hb;rw[aJ q];exact g.fh b u hb
 .obtain⟨q,h⟩:=at_ j d hj hd;obtain⟨k1,u,k2,k3⟩:=g.cs j d h hd;have ne:W.α j≠W.α i:=fun z=>q (g.inj j i d c h hi hd hc z);exact⟨by show upd W.F (W.α i) o' (W.α j)=none;rw[aJ ne];exact k1,u,by rw[aJ ne];exact k2,k3.up e⟩
 .exact g.inj j k d1 d2 (at_ j d1 hj e1).2 (at_ k d2 hk e2).2 e1 e2 he
noncomputable def NW:EF:=fun _ M=>some (.d (.dict []),M)
theorem UR:SE K ZF NW:=by
 intro γ M x M' hh W H σ Q G R k;cases hh;intro p hp;obtain⟨e2,G2⟩:=G.lay (o:=.dK []) hp;exact k _ _ _ e2 G2 ⟨p,[],rfl,aP,rfl⟩
noncomputable def GY:List (EF×EF)->Ga->Sto->Option (List (CD×CD)×Sto)
 |[],_,M=>some ([],M)
 |(f,g)::r,γ,M=>(f γ M).bind fun a=>(g γ a.2).bind fun b=>(GY r γ b.2).bind fun q=>some ((a.1,b.1)::q.1,q.2)
noncomputable def keyOf:CD->Option Key
 |.d (.int i)=>some (.inl i)
 |.d (.str x)=>some (.inr x)
 |_=>none
noncomputable def keyed:List (CD×CD)->Option (List (Key×PyData))
 |[]=>some []
 |(k,.d x)::r=>(keyOf k).bind fun k'=>(keyed r).bind fun q=>some ((k',x)::q)
 |_=>none
noncomputable def HP(fs:List (EF×EF)):EF:=fun γ M=>(GY fs γ (M++[.dk []])).bind fun r=>match r.2[M.length]? with
 |some (.dk [])=>(keyed r.1).bind fun kvs=>if kvs.length<=15/\(kvs.map (·.1)).Nodup then some (.d (.dict (kvs.map fun p=>(LQ p.1,p.2))),r.2.set M.length .dead)else none
 |_=>none
section
variable{K:Fg}
noncomputable def SPs(K:Fg):List (TE×TE)->List (EF×EF)->Prop:=Paired fun t f=>SE K t.1 f.1/\SE K t.2 f.2
theorem UG:∀{ts:List (TE×TE)}{fs:List (EF×EF)},SPs K ts fs->∀{γ:Ga}{M:Sto}{xs:List (CD×CD)}{M':Sto},GY fs γ M=some (xs,M')->∀{W:Wd}{H:Hp}{σ:St}{Q:List (V×V)->Hp->Prop},Good K W M H->cF K W γ σ->
 (∀vs W' H',W.Ext W'->Good K W' M' H'->Paired (fun a b=>bP K W' a.1 b.1/\bP K W' a.2 b.2) xs vs->Q vs H')->GE ts σ H Q
 |_,_,.nil,γ,M,xs,M',h,W,H,σ,Q,G,R,k=>by
  cases h;exact k [] W H (.refl _) G .nil
 |_,_,.cons s1 s2,γ,M,xs,M',h,W,H,σ,Q,G,R,k=>by
  obtain⟨⟨a,M1⟩,h1,h⟩:=aG h;obtain⟨⟨b,M2⟩,h2,h⟩:=aG h;obtain⟨⟨q,M3⟩,h3,h⟩:=aG h;cases h;refine s1.1 _ _ _ _ h1 W H σ _ G R fun v W1 H1 e1 G1 r1=>?_;refine s1.2 _ _ _ _ h2 W1 H1 σ _ G1 (R.up e1) fun u W2 H2 e2 G2 r2=>?_;refine UG s2 h3 G2 (R.up (e1.trans e2)) fun vs W3 H3 e3 G3 r3=>?_;exact k _ W3 H3 ((e1.trans e2).trans e3) G3 (.cons ⟨r1.up (e2.trans e3),r2.up e3⟩ r3)
theorem vI{x:CD}{k:Key}{v:V}(h:keyOf x=some k)(r:bP K W x v):v=kV k:=by
 unfold keyOf at h;split at h
 .cases h;exact r
 .cases h;exact r
 .cases h
theorem CU{W:Wd}:∀{xs:List (CD×CD)}{kvs:List (Key×PyData)}{vs:List (V×V)},keyed xs=some kvs->Paired (fun a b=>bP K W a.1 b.1/\bP K W a.2 b.2) xs vs->
 ∃us:List (Key×V),vs=us.map (fun p=>(kV p.1,p.2))/\us.map (·.1)=kvs.map (·.1)/\mP K W.F (kvs.map fun p=>(LQ p.1,p.2)) us
 |[],kvs,vs,h,r=>by
  cases h;cases r;exact⟨[],rfl,rfl,rfl⟩
 |(k,.c _)::_,kvs,vs,h,r=>by cases h
 |(k,.d x)::xs,kvs,vs,h,r=>by
  obtain⟨k',h1,h⟩:=aG (show(keyOf k).bind _=_ from h);obtain⟨q,h2,h⟩:=aG h;cases h;cases r with
  |@cons _ b _ vs' r1 r2=>
   obtain⟨us,e1,e2,e3⟩:=CU h2 r2;refine⟨(k',b.2)::us,?_,?_,k',b.2,us,rfl,rfl,r1.2,e3⟩
   .rw[C3,<- e1,<- vI h1 r1.1]
   .rw[C3,C3,e2]
theorem DB:∀(more acc:List (Key×V)),((acc++more).map (·.1)).Nodup->qH acc more=acc++more
 |[]=>fun acc _=>by simp[qH]
 |p::more=>fun acc h=>by
  have hn:iB acc p.1=none:=by
   unfold iB;rw[Option.map_eq_none_iff,List.find?_eq_none];intro x hx hd;have:x.1=p.1:=C2 hd;rw[D8,O4]at h;exact h.2.2 x.1 (J0 hx) p.1 (by simp) this
  show qH (putK acc p.1 p.2) more=_;rw[aAq _ hn,DB more _ (by rw[C1];exact h),C1];rfl
theorem aCt{ts:List (TE×TE)}{fs:List (EF×EF)}(sp:SPs K ts fs):SE K (aDj ts) (HP fs):=by
 intro γ M x M' hh W H σ Q G R k;obtain⟨⟨xs,M1⟩,h1,hh⟩:=aG hh;intro p hp;have G1:=G.new hp (c:=.dk []) (o:=.dK []) (show Paired _ [] []from .nil);have e1:=W.ext_more p;refine UG sp h1 G1 (R.up e1) fun vs W2 H2 e2 G2 r2=>?_;dsimp only at hh;split at hh
 .rename_i hM;obtain⟨kvs,h2,hh⟩:=aG hh;by_cases hc:kvs.length<=15/\(kvs.map (·.1)).Nodup
  .rw[A4 hc]at hh;cases hh
   have al:W2.α M.length=p:=by
    rw[e2.al M.length (by show M.length<W.n+1;rw[G.n];exact F5 _)];show(if M.length=W.n then p else _)=p;rw[A4 G.n.symm]
   obtain⟨_,o,g2,g3⟩:=G2.cs _ _ hM (by intro z;cases z);rw[al]at g2
   have ho:o=.dK []:=by
    cases o with
    |dK us=>cases g3;rfl
    |_=>exact False.elim g3
   subst ho;obtain⟨us,z1,z2,z3⟩:=CU h2 r2;have nd:(us.map (·.1)).Nodup:=by rw[z2];exact hc.2
   have hl:us.length<=15:=by
    have:=O6 List.length z2;rw[A9,A9]at this;omega
   refine⟨g2,us,z1,hl,?_⟩;rw[DB us [] (by simpa using nd),U0];obtain⟨e3,G3⟩:=G2.freeze (o':=.dK us) hM (by intro z;cases z);rw[al]at e3 G3;exact k _ _ _ ((e1.trans e2).trans e3) G3 ⟨p,us,rfl,aP,mP.same e3.ff _ _ z3⟩
  .rw[A5 hc]at hh;cases hh
 .cases hh
end
section
variable{ι:Type}{K:Fg}{X:ι->Cx}
structure MD(K:Fg)(X:ι->Cx)(pos:Pos)(ks:List (Option Expr))(vs:List Expr)(fs:List (EF×EF)):Prop where
 ex:∃ts,(∀i,PPs (X i) pos ks vs ts)/\SPs K ts fs
theorem aFu:MD K X pos [] [] []:=⟨_,fun _=>aBY,.nil⟩
theorem PB{k v:Expr}{ks:List (Option Expr)}{vs:List Expr}{f g:EF}{fs:List (EF×EF)}(x:ME K X k f)(y:ME K X v g)(z:MD K X pos ks vs fs):MD K X pos (some k::ks) (v::vs) ((f,g)::fs):=by
 obtain⟨t,x1,x2⟩:=x.ex;obtain⟨u,y1,y2⟩:=y.ex;obtain⟨o,z1,z2⟩:=z.ex;exact⟨_,fun i=>aAj (x1 i) (y1 i) (z1 i),.cons ⟨x2,y2⟩ z2⟩
theorem aCs{ks:List (Option Expr)}{vs:List Expr}{fs:List (EF×EF)}(x:MD K X pos ks vs fs)(hall:ks.all (·.isSome)=true:=by rfl)(hl:ks.length=vs.length:=by rfl)(h0:ks≠[]:=by simp)(h15:ks.length<=15:=by simp):ME K X (.Dict ks vs pos) (HP fs):=by
 obtain⟨t,x1,x2⟩:=x.ex;exact⟨_,fun i=>aCH (x1 i) hall hl h0 h15,aCt x2⟩
theorem VH:ME K X (.Dict [] [] pos) NW:=⟨_,fun _=>YI,UR⟩
end
mutual
noncomputable def wt:PyData->Nat
 |.none=>4
 |.bool _=>5
 |.int _=>2000
 |.str x=>(reprText x).length
 |.list xs=>kL xs+3
 |.tuple xs=>kL xs+3
 |.dict kvs=>TN kvs+3
noncomputable def kL:List PyData->Nat
 |[]=>0
 |x::xs=>wt x+2+kL xs
noncomputable def TN:List (PyData×PyData)->Nat
 |[]=>0
 |(k,v)::r=>wt k+wt v+4+TN r
end
mutual
noncomputable def oks:PyData->Bool
 |.none=>true
 |.bool _=>true
 |.int i=>decide (i.natAbs<2 ^ 1900)
 |.str _=>true
 |.list xs=>gZ xs
 |.tuple xs=>gZ xs
 |.dict kvs=>DR kvs
noncomputable def gZ:List PyData->Bool
 |[]=>true
 |x::xs=>oks x&&gZ xs
noncomputable def DR:List (PyData×PyData)->Bool
 |[]=>true
 |(k,v)::r=>oks k&&oks v&&DR r
end
theorem aAV{i:Int}(h:i.natAbs<2 ^ 1900):i.natAbs.log2<1900:=by
 by_cases h0:i.natAbs=0
 .rw[h0];decide +kernel
 .exact(Nat.log2_lt h0).mpr h
theorem aCw{i:Int}(h:i.natAbs<2 ^ 1900):((toString i:String):Str).length<=2000:=by
 have h1:=int_text_length_le (k:=1900) (by decide) (aAV h);show(Str.ofString (toString i)).length<=2000;rw[PySem.ofString_length];omega
mutual
theorem shown_le:∀d:PyData,oks d=true->d.shown.length<=wt d
 |.none=>fun _=>by decide
 |.bool b=>fun _=>by cases b<;>decide
 |.int i=>fun h=>aCw (C2 h)
 |.str x=>fun _=>A7 _
 |.list xs=>fun h=>by
  have:=shownAll_le xs h;have h2:=listText_len_le (PyData.shownAll xs);show(listText (PyData.shownAll xs)).length<=kL xs+3;omega
 |.tuple xs=>fun h=>by
  have:=shownAll_le xs h;have h2:=tupleText_len_le (PyData.shownAll xs);show(tupleText (PyData.shownAll xs)).length<=kL xs+3;omega
 |.dict kvs=>fun h=>by
  have:=shownKv_le kvs h;have h2:=dictText_len_le (PyData.shownKv kvs);show(dictText (PyData.shownKv kvs)).length<=TN kvs+3;omega
theorem shownAll_le:∀xs:List PyData,gZ xs=true->((PyData.shownAll xs).map (·.length)).sum+2*(PyData.shownAll xs).length<=kL xs
 |[]=>fun _=>by simp[PyData.shownAll,kL]
 |x::xs=>fun h=>by
  unfold gZ at h;rw[B3]at h;have h1:=shown_le x h.1;have h2:=shownAll_le xs h.2;simp only[PyData.shownAll,kL,List.map_cons,List.sum_cons,List.length_cons];omega
theorem shownKv_le:∀kvs:List (PyData×PyData),DR kvs=true->((PyData.shownKv kvs).map (·.length)).sum+2*(PyData.shownKv kvs).length<=TN kvs
 |[]=>fun _=>by simp[PyData.shownKv,TN]
 |(k,v)::r=>fun h=>by
  unfold DR at h;rw[B3,B3]at h;have h1:=shown_le k h.1.1;have h2:=shown_le v h.1.2;have h3:=shownKv_le r h.2
  have e:(PyData.shown k++": "++PyData.shown v).length=(PyData.shown k).length+2+(PyData.shown v).length:=by
   rw[strLen_append,strLen_append];rfl
  simp only[PyData.shownKv,TN,List.map_cons,List.sum_cons,List.length_cons,e];omega
end
mutual
theorem kZ:∀d:PyData,oks d=true->d.showable=true
 |.none=>fun _=>rfl
 |.bool _=>fun _=>rfl
 |.int i=>fun h=>by
  have h:i.natAbs<2 ^ 1900:=C2 h;refine C4 ?_;by_cases h0:i.natAbs=0
  .rw[h0];decide +kernel
  .exact O1 ((Nat.log2_lt h0).mpr h) (by decide)
 |.str _=>fun _=>rfl
 |.list xs=>fun h=>showableAll_of xs h
 |.tuple xs=>fun h=>showableAll_of xs h
 |.dict kvs=>fun h=>showableKv_of kvs h
theorem showableAll_of:∀xs:List PyData,gZ xs=true->PyData.showableAll xs=true
 |[]=>fun _=>rfl
 |x::xs=>fun h=>by
  unfold gZ at h;rw[B3]at h;show(PyData.showable x&&PyData.showableAll xs)=true;rw[kZ x h.1,showableAll_of xs h.2];rfl
theorem showableKv_of:∀kvs:List (PyData×PyData),DR kvs=true->PyData.showableKv kvs=true
 |[]=>fun _=>rfl
 |(k,v)::r=>fun h=>by
  unfold DR at h;rw[B3,B3]at h;show(PyData.showable k&&PyData.showable v&&PyData.showableKv r)=true;rw[kZ k h.1.1,kZ v h.1.2,showableKv_of r h.2];rfl
end
structure Fit(n m:Nat)(d:PyData):Prop where
 ok:oks d=true
 wt:wt d<=n
 dp:d.depth<=m
theorem Fit.shown{n m:Nat}{d:PyData}(f:Fit n m d)(hn:n<=sizeLine:=by decide)(hm:m<=64:=by decide):rA d=true:=by
 unfold rA;rw[kZ d f.ok,C4 (D3 f.dp hm),C4 (D3 (D3 (shown_le d f.ok) f.wt) hn)];rfl
theorem Fit.mono{n m n' m':Nat}{d:PyData}(f:Fit n m d)(hn:n<=n')(hm:m<=m'):Fit n' m' d:=⟨f.ok,D3 f.wt hn,D3 f.dp hm⟩
theorem yZ{n m:Nat}{d:PyData}(f:Fit n m d)(hn:n<=sizeLine:=by decide)(hm:m<=64:=by decide):QG [.d d] M=some (.d (.str d.shown),M):=by
 unfold QG;dsimp only;rw[A4 (f.shown hn hm)]
noncomputable def vU(f:Str)(v:CD):List (Str×CD)->List (Str×CD)
 |[]=>[(f,v)]
 |(g,x)::r=>if g=f then(g,v)::r else(g,x)::vU f v r
section
variable{K:Fg}
theorem zK{W:Wd}{f:Str}{x:CD}{v:V}(r:bP K W x v):∀{fs:List (Str×CD)}{us:List (Str×V)},Paired (fun p q=>p.1=q.1/\bP K W p.2 q.2) fs us->Paired (fun p q=>p.1=q.1/\bP K W p.2 q.2) (vU f x fs) (mJ f v us)
 |_,_,.nil=>.cons ⟨rfl,r⟩ .nil
 |(g,y)::fs,(g',u)::us,.cons h t=>by
  obtain⟨h1,h2⟩:=h;have h1:g=g':=h1;subst h1;unfold vU mJ;by_cases e:g=f
  .rw[A4 e,A4 e];exact .cons ⟨rfl,r⟩ t
  .rw[A5 e,A5 e];exact .cons ⟨rfl,h2⟩ (zK r t)
theorem vT{W:Wd}{f:Str}{x:CD}:∀{fs:List (Str×CD)}{us:List (Str×V)},Paired (fun p q=>p.1=q.1/\bP K W p.2 q.2) fs us->fs.lookup f=some x->∃v,us.lookup f=some v/\bP K W x v
 |_,_,.nil=>fun h=>by cases h
 |(g,y)::fs,(g',u)::us,.cons h t=>fun e=>by
  obtain⟨h1,h2⟩:=h;have h1:g=g':=h1;subst h1;rw[C8]at e ⊢;by_cases q:(f==g)=true
  .rw[q]at e ⊢;cases e;exact⟨u,rfl,h2⟩
  .have q':(f==g)=false:=by simpa using q
   rw[q']at e ⊢;exact vT t e
theorem DG{W:Wd}{f:Str}:∀{fs:List (Str×CD)}{us:List (Str×V)},Paired (fun p q=>p.1=q.1/\bP K W p.2 q.2) fs us->fs.lookup f=none->us.lookup f=none
 |_,_,.nil=>fun h=>rfl
 |(g,y)::fs,(g',u)::us,.cons h t=>fun e=>by
  obtain⟨h1,h2⟩:=h;have h1:g=g':=h1;subst h1;rw[C8]at e ⊢;by_cases q:(f==g)=true
  .rw[q]at e;cases e
  .have q':(f==g)=false:=by simpa using q
   rw[q']at e ⊢;exact DG t e
theorem Good.objAt{i:Nat}{nm:Str}{fs:List (Str×CD)}(G:Good K W M H)(h:M[i]?=some (.obj nm fs)):∃dx us,H (W.α i)=some (.ins (aR K nm) dx us)/\Paired (fun p q=>p.1=q.1/\bP K W p.2 q.2) fs us:=by
 obtain⟨_,o,h2,h3⟩:=G.cs i _ h (by intro z;cases z);cases o with
 |ins C dx us=>
  obtain⟨e,p⟩:=h3;subst e;exact⟨dx,us,h2,p⟩
 |_=>exact False.elim h3
theorem Good.extra(g:Good K W M H){p:Addr}{o:HO}(hp:H p=none):Good K W M (upd H p o):=by
 refine⟨fun b u hb=>?_,g.n,fun i c hi hc=>?_,g.inj⟩
 .have:=g.fh b u hb;rw[aJ (aO this hp)];exact this
 .obtain⟨h1,o',h2,h3⟩:=g.cs i c hi hc;exact⟨h1,o',by rw[aJ (aO h2 hp)];exact h2,h3⟩
noncomputable def objOf(nm:Str)(M:Sto):CD->Option (Nat×List (Str×CD))
 |.c i=>match M[i]? with
  |some (.obj nm' fs)=>if nm'=nm then some (i,fs)else none
  |_=>none
 |_=>none
theorem pD{nm:Str}{x:CD}{i:Nat}{fs:List (Str×CD)}(h:objOf nm M x=some (i,fs)):x=.c i/\M[i]?=some (.obj nm fs):=by
 unfold objOf at h;split at h
 .rename_i j;split at h
  .rename_i nm' fs' hj;by_cases e:nm'=nm
   .rw[A4 e]at h;cases h;subst e;exact⟨rfl,hj⟩
   .rw[A5 e]at h;cases h
  .cases h
 .cases h
noncomputable def gF(nm f:Str)(e:EF):EF:=fun γ M=>(e γ M).bind fun r=>(objOf nm r.2 r.1).bind fun p=>(p.2.lookup f).bind fun v=>some (v,r.2)
theorem aGq{nm f:Str}{ta:TE}{e:EF}(c:Cls K (aR K nm))(n:eX K (aR K nm) f)(a:SE K ta e):SE K (aBm K ta f) (gF nm f e):=by
 intro γ M x M' hh W H σ Q G R k;obtain⟨⟨y,M1⟩,h1,hh⟩:=aG hh;obtain⟨⟨i,fs⟩,h2,hh⟩:=aG hh;obtain⟨v,h3,hh⟩:=aG hh;cases hh;refine a _ _ _ _ h1 W H σ _ G R fun u W1 H1 e1 G1 r1=>?_;obtain⟨rfl,hM⟩:=pD h2;obtain⟨dx,us,hH,hp⟩:=G1.objAt hM;obtain⟨w,hw,rw'⟩:=vT hp h3;exact⟨W1.α i,_,dx,us,w,r1.2,hH,c,n,hw,k w W1 H1 e1 G1 rw'⟩
noncomputable def JH(nm f:Str)(eo ev:EF):SF:=fun γ M=>(ev γ M).bind fun v=>(eo γ v.2).bind fun o=>(objOf nm o.2 o.1).bind fun p=>if p.2.length<1000 then some (.nx γ,o.2.set p.1 (.obj nm (vU f v.1 p.2)))else none
theorem aFk{nm f:Str}{ta tv:TE}{eo ev:EF}(c:Cls K (aR K nm))(n:eX K (aR K nm) f)(a:SE K ta eo)(b:SE K tv ev):SS K (aCI K ta tv f) (JH nm f eo ev):=by
 intro γ M o M' hh W H σ D G R k;obtain⟨⟨y,M1⟩,h1,hh⟩:=aG hh;obtain⟨⟨z,M2⟩,h2,hh⟩:=aG hh;obtain⟨⟨i,fs⟩,h3,hh⟩:=aG hh;by_cases hl:fs.length<1000
 .have hh:(if fs.length<1000 then some (Out.nx γ,M2.set i (.obj nm (vU f y fs)))else none)=some (o,M'):=hh;rw[A4 hl]at hh;cases hh;refine b _ _ _ _ h1 W H σ _ G R fun v W1 H1 e1 G1 r1=>?_;refine a _ _ _ _ h2 W1 H1 σ _ G1 (R.up e1) fun u W2 H2 e2 G2 r2=>?_;obtain⟨rfl,hM⟩:=pD h3;obtain⟨dx,us,hH,hp⟩:=G2.objAt hM;refine⟨W2.α i,_,dx,us,r2.2,hH,c,n,by rw[<- Paired.len hp];exact hl,?_⟩;exact k W2 _ (e1.trans e2) (G2.set hM (by intro q;cases q) (c':=.obj nm (vU f y fs)) (o':=.ins (aR K nm) dx (mJ f v us)) ⟨rfl,zK (r1.up e2) hp⟩) σ (R.up (e1.trans e2))
 .have hh:(if fs.length<1000 then some (Out.nx γ,M2.set i (.obj nm (vU f y fs)))else none)=some (o,M'):=hh;rw[A5 hl]at hh;cases hh
noncomputable def sF:CD->Bool
 |.d .none=>true
 |_=>false
theorem zV{x:CD}(h:sF x=true):x=.d .none:=by
 cases x with
 |c n=>cases h
 |t n=>cases h
 |f n=>cases h
 |d x=>cases x<;>first|rfl|cases h
noncomputable def pF(nm m:Str)(h:FN)(f:EF)(fa:AF):EF:=fun γ M=>(f γ M).bind fun r=>(objOf nm r.2 r.1).bind fun p=>if p.2.lookup m=none then(fa γ r.2).bind fun q=>h (r.1::q.1) q.2 else none
theorem ZC{nm m:Str}{h:FN}{ta:TE}{f:EF}{tA:TA}{fa:AF}(a:SE K ta f)(b:SA K tA fa):SE K (aDB (aR K nm) m (spM K h) [] E0 ta tA) (pF nm m h f fa):=by
 intro γ M x M' hh W H σ Q G R k;obtain⟨⟨y,M1⟩,h1,hh⟩:=aG hh;obtain⟨⟨i,fs⟩,h2,hh⟩:=aG hh;have hh:(if fs.lookup m=none then(fa γ M1).bind fun q=>h (y::q.1) q.2 else none)=some (x,M'):=hh;by_cases hl:fs.lookup m=none
 .rw[A4 hl]at hh;obtain⟨⟨ys,M2⟩,h3,hh⟩:=aG hh;refine a _ _ _ _ h1 W H σ _ G R fun v W1 H1 e1 G1 r1=>?_;obtain⟨rfl,hM⟩:=pD h2;obtain⟨dx,us,hH,hp⟩:=G1.objAt hM;refine⟨W1.α i,dx,us,r1.2,hH,DG hp hl,?_⟩;refine b _ _ _ _ h3 W1 H1 σ _ G1 (R.up e1) fun vs W2 H2 e2 G2 r2=>?_;rw[C6];exact⟨_,M2,W2,x,M',G2,.cons (r1.up e2) r2,hh,fun w W3 H3 e3 G3 r3=>k w W3 H3 ((e1.trans e2).trans e3) G3 r3⟩
 .rw[A5 hl]at hh;cases hh
end
structure FK(P:Program)(w:World)(K:Fg)(mg:Str->Option Value)(base:Heap)(k:Nat)(nm m:Str)(ps:List Str)(sp:Sp):Prop where
 ex:∃f fd,gP P w K mg base CX0 k f fd ps sp/\aBK K (aR K nm) m f/\Binds K fd ps []
section
variable{ι:Type}{K:Fg}{X:ι->Cx}{a b c e o:Expr}{es:List Expr}{f g h:EF}{fa:AF}{pos:Pos}
theorem jW{nm fl:Str}(hK:∀i,(X i).K=K)(hc:Cls K (aR K nm))(hn:eX K (aR K nm) fl)(x:ME K X o f)(hb:∀env:Env,attributeBase o fl env (eval o env)=eval o env:=by intro _;rfl):ME K X (.Attribute o fl pos) (gF nm fl f):=by
 obtain⟨t,x1,x2⟩:=x.ex;refine⟨_,fun i=>?_,aGq hc hn x2⟩;have:=aAy (x1 i) (hb _) (pos:=pos);rw[hK i]at this;exact this
theorem WU{nm fl:Str}{pos':Pos}(hK:∀i,(X i).K=K)(hc:Cls K (aR K nm))(hn:eX K (aR K nm) fl)(x:ME K X o f)(y:ME K X e g)(hs:∀i,swapsWith e (some (.Attribute o fl pos')) pos.line (X i).env=pure false:=by intro _;rfl):MS K X (.Assign [.Attribute o fl pos'] e pos) (JH nm fl f g):=by
 obtain⟨t,x1,x2⟩:=x.ex;obtain⟨u,y1,y2⟩:=y.ex;refine⟨_,fun i=>?_,aFk hc hn x2 y2⟩;have:=YT (x1 i) (y1 i) (hs i);rw[hK i]at this;exact this
theorem QU{k:Nat}{nm m:Str}{ps:List Str}{F:FN}{apos:Pos}(C:∀i,FK (X i).prog (X i).w (X i).K (X i).mg (X i).base k nm m ps (spM K F))(hK:∀i,(X i).K=K)(hc:Cls K (aR K nm))(hr:∀i,bS k (X i).A)(x:ME K X o f)(y:MA K X (e::es) fa)
 (ht:∀env:Env,∃pl:Sem Bool,eval (.Call (.Attribute o m apos) (e::es) [] pos) env=(do
  let ov <- eval o env
  standAt apos.atName
  let(f,first) <- holding [ov] (getMethod ov m pl)
  callWith pos f first (backTo pos (starEach (e::es) env)) (backToKw pos (keywordEach [] env))):=by intro _;exact⟨_,rfl⟩):
 ME K X (.Call (.Attribute o m apos) (e::es) [] pos) (pF nm m F f fa):=by
 obtain⟨t,x1,x2⟩:=x.ex;obtain⟨u,y1,y2⟩:=y.ex;refine⟨_,fun i=>?_,ZC x2 y2⟩;obtain⟨f',fd,F',M,B⟩:=(C i).ex;obtain⟨pl,hpl⟩:=ht (X i).env;have hcX:Cls (X i).K (aR (X i).K nm):=by rw[hK i];exact hc
 have:=aAN (x1 i) hcX M F' (hr i) B .nil aDO (y1 i) (y.st.1 _) (y.st.2.plain _ _) hpl;rw[hK i]at this;exact this
end
structure CJ(K:Fg)(nm m qual:Str)(st:Stmt):Prop where
 ex:∃f fd,Fun K m qual st f fd/\PySem.W.findIn K (.ref (aR K nm)) m=some (some (.ref f))/\PySem.W.isFn K (.ref f)=true
section
variable{P:Program}{w:World}{K:Fg}{mg:Str->Option Value}{base:Heap}
theorem Fun.okQ{x qual:Str}{st:Stmt}{N ps:List Str}{k:Nat}{b:SF}{f:Addr}{fd:FuncData}(F:Fun K x qual st f fd)(S:aS N ps (aH st))
 (hbody:∀(f:Addr)(cdv:Value)(A:Around)(outer:List Env)(s:Shared)(H:Hp)(E:XK),bS k (A.deeper (envOfC qual (aH st) s.heap.objs.size f cdv))->
  ML K (fun _:Unit=>(kR CX0 P w K mg base N qual (aH st) f cdv A outer s H E).nox) (bF st) b):gP P w K mg base CX0 (k+1) f fd ps (spM K (fnF ps.length N.length b)):=by
 have len:∀vs H Q E,spM K (fnF ps.length N.length b) vs H Q E->vs.length=ps.length:=fun vs H Q E h=>by
  obtain⟨xs,M,W,y,M',G,R,hf,_⟩:=h;by_cases hl:xs.length=ps.length
  .rw[<- Paired.len R];exact hl
  .unfold fnF at hf;rw[A5 hl]at hf;cases hf
 refine F.ok S len fun cdv A outer s H vs Q E hr h=>?_;obtain⟨t,hP,hS⟩:=(hbody f cdv A outer s H E hr).ex;refine⟨t,hP (),?_⟩;obtain⟨xs,M,W,y,M',G,R,hf,k⟩:=h;by_cases hl:xs.length=ps.length
 .unfold fnF at hf;rw[A4 hl]at hf;obtain⟨⟨o,M1⟩,h1,hf⟩:=aG hf
  have hR:cF K W (xs.map some++List.replicate (N.length-xs.length) none) (start N vs):=by
   unfold start;rw[<- Paired.len R];exact Paired.app (bM.some R) (pU _)
  refine hS _ _ _ _ h1 W H _ _ G hR fun W1 H1 e1 G1=>?_;cases o with
  |rt x=>cases hf;exact fun v r=>k v W1 H1 e1 G1 r
  |nx γ=>cases hf;exact fun σ r=>k .non W1 H1 e1 G1 rfl
  |bk γ=>cases hf
  |ct γ=>cases hf
 .unfold fnF at hf;rw[A5 hl]at hf;cases hf
theorem CJ.okM{nm m qual:Str}{st:Stmt}{N ps:List Str}{k:Nat}{b:SF}(D:CJ K nm m qual st)(S:aS N ps (aH st))
 (hb:∀(kV doc pm:Value)(an:Option Addr)(cdv ct:Value)(us:List Value),us.length=ps.length->bindArgs (PySem.W.fnOf m qual (cR st) (bF st) (aH st) .none kV doc pm an cdv ct) ⟨us,[]⟩=pure (ps.zip us))
 (hbody:∀(f:Addr)(cdv:Value)(A:Around)(outer:List Env)(s:Shared)(H:Hp)(E:XK),bS k (A.deeper (envOfC qual (aH st) s.heap.objs.size f cdv))->
  ML K (fun _:Unit=>(kR CX0 P w K mg base N qual (aH st) f cdv A outer s H E).nox) (bF st) b):FK P w K mg base (k+1) nm m ps (spM K (fnF ps.length N.length b)):=by
 obtain⟨f,fd,F,h1,h2⟩:=D.ex;exact⟨f,fd,F.okQ S hbody,⟨h1,h2,F.kp⟩,F.binds hb⟩
end
section
variable{K:Fg}
noncomputable def reverseF:FM:=fun x ys M=>match x,ys with
 |.c i,[]=>match M[i]? with
  |some (.lst xs)=>some (.d .none,M.set i (.lst xs.reverse))
  |_=>none
 |_,_=>none
noncomputable def aHK:List V->Hp->VK->Prop:=fun xs H Q=>∃i j,xs=[.int i,.int j]/\Q (.int (if j > i then j else i)) H
noncomputable def aIB:List V->Hp->VK->Prop:=fun xs H Q=>∃i j,xs=[.int i,.int j]/\Q (.int (if j<i then j else i)) H
noncomputable def jX:FN:=fun xs M=>match xs with
 |[.d (.int i),.d (.int j)]=>some (.d (.int (if j > i then j else i)),M)
 |_=>none
noncomputable def jL:FN:=fun xs M=>match xs with
 |[.d (.int i),.d (.int j)]=>some (.d (.int (if j<i then j else i)),M)
 |_=>none
theorem aBv:PN K aHK jX:=by
 intro xs M z M' h W H vs Q G r k;unfold jX at h;split at h
 .rename_i i j;cases h;rcases r with _|⟨r1,_|⟨r2,_|_⟩⟩;exact⟨i,j,by rw[show _=V.int i from r1,show _=V.int j from r2],k _ W H (.refl _) G rfl⟩
 .cases h
theorem aCS:PN K aIB jL:=by
 intro xs M z M' h W H vs Q G r k;unfold jL at h;split at h
 .rename_i i j;cases h;rcases r with _|⟨r1,_|⟨r2,_|_⟩⟩;exact⟨i,j,by rw[show _=V.int i from r1,show _=V.int j from r2],k _ W H (.refl _) G rfl⟩
 .cases h
end
section
variable{ι:Type}{K:Fg}{X:ι->Cx}{a b c e o:Expr}{es:List Expr}{f g h:EF}{fa:AF}{pos:Pos}
theorem yI(hc:∀i,(X i).calm=true):QN K X (.builtin "max") jX:=⟨_,fun i=>QY (hc i),aBv⟩
theorem yO(hc:∀i,(X i).calm=true):QN K X (.builtin "min") jL:=⟨_,fun i=>QV (hc i),aCS⟩
end
open PySem PySem.W PyProof.Rows
noncomputable def KS{α:Type}(lt:Nat->Nat->Bool)(n:Nat):KasT α->(α->Prop)->Prop
 |.ret a,Q=>Q a
 |.ask i j k,Q=>i<n/\j<n/\KS lt n (k (lt i j)) Q
theorem KS.bind{α β:Type}{lt:Nat->Nat->Bool}{n:Nat}{f:α->KasT β}{Q:β->Prop}:∀{t:KasT α},KS lt n t (fun a=>KS lt n (f a) Q)->KS lt n (t.bind f) Q
 |.ret _=>fun h=>h
 |.ask _ _ _=>fun h=>⟨h.1,h.2.1,KS.bind h.2.2⟩
theorem KS.mono{α:Type}{lt:Nat->Nat->Bool}{n:Nat}{Q R:α->Prop}(m:∀a,Q a->R a):∀{t:KasT α},KS lt n t Q->KS lt n t R
 |.ret _=>fun h=>m _ h
 |.ask _ _ _=>fun h=>⟨h.1,h.2.1,KS.mono m h.2.2⟩
theorem KS.wp{α:Type}{lt:Nat->Nat->Bool}{n:Nat}{Q:α->Prop}{R:α->Shared->Prop}{s:Shared}{cmp:Nat->Nat->(Bool->Shared->Prop)->Shared->Prop}
 (hc:∀i j C,i<n->j<n->C (lt i j) s->cmp i j C s) (m:∀a,Q a->R a s):∀{t:KasT α},KS lt n t Q->KasT.kasWp cmp t R s
 |.ret _=>fun h=>m _ h
 |.ask _ _ _=>fun h=>hc _ _ _ h.1 h.2.1 (KS.wp hc m h.2.2)
section
variable{lt:Nat->Nat->Bool}{n:Nat}
structure uV(lt:Nat->Nat->Bool):Prop where
 as:∀a b,lt a b=true->lt b a=false
 tr:∀a b c,lt b a=false->lt c b=false->lt c a=false
theorem uV.up(o:uV lt){a b c:Nat}(h:lt c a=true)(h':lt b a=false):lt c b=true:=by
 cases e:lt c b with
 |true=>rfl
 |false=>rw[o.tr _ _ _ h' e]at h;cases h
noncomputable def Inv2(n:Nat)(p:Array Nat):Prop:=p.Perm (List.range n).toArray
theorem Inv2.sz{p:Array Nat}(h:Inv2 n p):p.size=n:=by
 have:=(Array.perm_iff_toList_perm.mp h).length_eq;simpa using this
theorem Inv2.ent{p:Array Nat}(h:Inv2 n p)(h0:0<n)(k:Nat):p.getD k 0<n:=by
 rw[E2];cases e:p[k]? with
 |none=>exact h0
 |some x=>
  have hm:x∈p:=Array.mem_of_getElem? e;have:=(h.mem_iff (a:=x)).mp hm;simpa using this
noncomputable def gU(lt:Nat->Nat->Bool)(p:Array Nat)(n:Nat):Prop:=∀i j,i<j->j<n->lt (p.getD j 0) (p.getD i 0)=false
noncomputable def uI(lt:Nat->Nat->Bool)(p:Array Nat)(n:Nat):Prop:=∀i j,i<j->j<n->lt (p.getD i 0) (p.getD j 0)=false
noncomputable def aAi(lt:Nat->Nat->Bool)(p:Array Nat)(n q:Nat):Prop:=∀i j,n<=i+q+1->i<j->j<n->lt (p.getD j 0) (p.getD i 0)=false
theorem gU.ext(o:uV lt){p:Array Nat}{m:Nat}(h:gU lt p m)(h1:1<=m)(h2:lt (p.getD m 0) (p.getD (m-1) 0)=false):gU lt p (m+1):=by
 intro i j hij hj;by_cases e:j=m
 .subst e;by_cases e':i=j-1
  .subst e';exact h2
  .exact o.tr _ _ _ (h i (j-1) (by omega) (by omega)) h2
 .exact h i j hij (by omega)
theorem uI.ext(o:uV lt){p:Array Nat}{m:Nat}(h:uI lt p m)(h1:1<=m)(h2:lt (p.getD (m-1) 0) (p.getD m 0)=false):uI lt p (m+1):=by
 intro i j hij hj;by_cases e:j=m
 .subst e;by_cases e':i=j-1
  .subst e';exact h2
  .exact o.tr _ _ _ h2 (h i (j-1) (by omega) (by omega))
 .exact h i j hij (by omega)
theorem LW(o:uV lt){p:Array Nat}(hp:Inv2 n p)(h0:0<n){Q:Nat->Prop}:∀(f m:Nat),1<=m->gU lt p m->(∀r,m<=r->r<=m+f->gU lt p r->(r<m+f->lt (p.getD r 0) (p.getD (r-1) 0)=true)->Q r)->KS lt n (kas_asc p f m) Q
 |0=>fun m h1 hs k=>by
  rw[kas_asc.eq_def];exact k m (A7 _) (A7 _) hs (fun h=>absurd h (F8 _))
 |f+1=>fun m h1 hs k=>by
  rw[kas_asc.eq_def];refine⟨hp.ent h0 _,hp.ent h0 _,?_⟩;cases e:lt (p.getD m 0) (p.getD (m-1) 0)with
  |true=>exact k m (A7 _) (by omega) hs (fun _=>e)
  |false=>exact LW o hp h0 f (m+1) (by omega) (hs.ext o h1 e) fun r a b c d=>k r (by omega) (by omega) c (fun z=>d (by omega))
theorem fT{p:Array Nat}(hp:Inv2 n p)(i j:Nat):Inv2 n (kas_rev p i j):=(mirror_perm p i j _).trans hp
theorem rE{p:Array Nat}{i j:Nat}(hj:j<=p.size)(k:Nat):(kas_rev p i j).getD k 0=if i<=k/\k<j then p.getD (i+j-1-k) 0 else p.getD k 0:=by
 rw[E2,show(kas_rev p i j)[k]?=_ from getElem?_mirror_all hj k];by_cases e:i<=k/\k<j
 .rw[A4 e,A4 e,E2]
 .rw[A5 e,A5 e,E2]
theorem JU(o:uV lt){p:Array Nat}{lo hi m:Nat}(hm:m<=p.size)(hh:hi<=m)(d:uI lt p m)(e:∀i j,lo<=i->i<j->j<hi->lt (p.getD j 0) (p.getD i 0)=false):uI lt (kas_rev p lo hi) m:=by
 intro i j hij hj;rw[rE (by omega),rE (by omega)];by_cases a:lo<=i/\i<hi
 .rw[A4 a];by_cases b:lo<=j/\j<hi
  .rw[A4 b];exact e _ _ (by omega) (by omega) (by omega)
  .rw[A5 b];exact d _ _ (by omega) hj
 .rw[A5 a];by_cases b:lo<=j/\j<hi
  .rw[A4 b];exact d _ _ (by omega) (by omega)
  .rw[A5 b];exact d _ _ hij hj
theorem xY(o:uV lt)(h0:0<n){Q:Array Nat×Nat×Nat->Prop}:∀(f:Nat)(p:Array Nat)(m q:Nat),Inv2 n p->1<=m->m+f<=n->uI lt p m->aAi lt p m q->q+1<=m->
 (∀p' m' q',Inv2 n p'->m<=m'->m'<=m+f->uI lt p' m'->aAi lt p' m' q'->q'+1<=m'->Q (p',m',q'))->KS lt n (kas_desc f p m q) Q
 |0=>fun p m q hp h1 h2 hd he hq k=>by
  rw[kas_desc.eq_def];exact k p m q hp (A7 _) (A7 _) hd he hq
 |f+1=>fun p m q hp h1 h2 hd he hq k=>by
  rw[kas_desc.eq_def];refine⟨hp.ent h0 _,hp.ent h0 _,?_⟩;have hsz:=hp.sz;have e0:∀p':Array Nat,aAi lt p' (m+1) 0:=fun p' i j a b c=>by omega
  cases c:lt (p.getD m 0) (p.getD (m-1) 0)with
  |true=>
   have hd1:=hd.ext o h1 (o.as _ _ c);dsimp only;rw[A4 rfl];by_cases hq0:q > 0
   .rw[A4 hq0];exact xY o h0 f _ (m+1) 0 (fT hp _ _) (by omega) (by omega) (JU o (by omega) (by omega) hd1 (fun i j a b d=>he i j (by omega) b (by omega))) (e0 _) (by omega) fun p' m' q' a b c' d e g=>k p' m' q' a (by omega) (by omega) d e g
   .rw[A5 hq0];exact xY o h0 f _ (m+1) 0 hp (by omega) (by omega) hd1 (e0 _) (by omega) fun p' m' q' a b c' d e g=>k p' m' q' a (by omega) (by omega) d e g
  |false=>
   dsimp only;rw[A5 A6];refine⟨hp.ent h0 _,hp.ent h0 _,?_⟩;cases d:lt (p.getD (m-1) 0) (p.getD m 0)with
   |true=>
    dsimp only;rw[A4 rfl];exact k p m q hp (A7 _) (by omega) hd he hq
   |false=>
    dsimp only;rw[A5 A6];refine xY o h0 f p (m+1) (q+1) hp (by omega) (by omega) (hd.ext o h1 d) ?_ (by omega) fun p' m' q' a b c' d e g=>k p' m' q' a (by omega) (by omega) d e g;intro i j a b e;by_cases ej:j=m
    .subst ej;by_cases ei:i=j-1
     .subst ei;exact c
     .exact o.tr _ _ _ (he i (j-1) (by omega) (by omega) (by omega)) c
    .exact he i j (by omega) b (by omega)
noncomputable def Part(lt:Nat->Nat->Bool)(n:Nat)(r:Nat×Array Nat):Prop:=Inv2 n r.2/\1<=r.1/\r.1<=n/\gU lt r.2 r.1
theorem IE(o:uV lt)(h0:0<n){p:Array Nat}{m:Nat}(hp:Inv2 n p)(h1:1<=m)(h2:m<=n)(hd:uI lt p m):KS lt n (kas_tail3 m n p) (Part lt n):=by
 have hsz:=hp.sz;rw[kas_tail3.eq_def];refine KS.bind (LW o (fT hp 0 m) h0 _ _ h1 ?_ fun r a b c _=>⟨fT hp 0 m,by omega,by omega,c⟩);intro i j hij hj;rw[rE (by omega),rE (by omega),A4 (by omega),A4 (by omega)];exact hd _ _ (by omega) (by omega)
theorem wC(o:uV lt)(h0:0<n){p:Array Nat}{m:Nat}(hp:Inv2 n p)(h2:m+1<=n)(hd:uI lt p (m+1)):KS lt n (kas_descPart m n p) (Part lt n):=by
 rw[kas_descPart.eq_def];refine KS.bind (xY o h0 _ _ _ _ hp (by omega) (by omega) hd (fun i j a b c=>by omega) (by omega) fun p' m' q' a b c d e g=>?_);have hsz:=a.sz;show KS lt n (if q' > 0 then kas_tail3 m' n (kas_rev p' (m'-(q'+1)) m')else kas_tail3 m' n p') _;by_cases hq:q' > 0
 .rw[A4 hq];exact IE o h0 (fT a _ _) (by omega) (by omega) (JU o (by omega) (A7 _) d fun i j x y z=>e i j (by omega) y z)
 .rw[A5 hq];exact IE o h0 a (by omega) (by omega) d
theorem VL(o:uV lt)(h0:0<n){p:Array Nat}(hp:Inv2 n p):KS lt n (kas_count n p) (Part lt n):=by
 have hsz:=hp.sz;rw[kas_count.eq_def];refine KS.bind (LW o hp h0 _ _ (A7 _) (fun i j a b=>by omega) fun r a b c d=>?_);by_cases e:(r==n)=true
 .rw[A4 e];exact⟨hp,a,by omega,c⟩
 .rw[A5 e];have e':r≠n:=by simpa using e
  have hl:=d (by omega);by_cases g:r > 1
  .rw[A4 g];refine⟨hp.ent h0 _,hp.ent h0 _,?_⟩;cases l:lt (p.getD 0 0) (p.getD (r-1) 0)with
   |true=>dsimp only;rw[A4 rfl];exact⟨hp,a,by omega,c⟩
   |false=>
    dsimp only;rw[A5 A6];have le:∀i j,i<=j->j<r->i<j\/i=j:=fun i j x y=>by omega
    have irr:∀x,lt x x=false:=fun x=>by
     cases q:lt x x with
     |false=>rfl
     |true=>rw[o.as _ _ q]at q;cases q
    have up:∀i,i<r->lt (p.getD i 0) (p.getD (r-1) 0)=false:=fun i hi=>by
     have x1:lt (p.getD i 0) (p.getD 0 0)=false:=by
      by_cases z:i=0
      .subst z;exact irr _
      .exact c 0 i (by omega) hi
     exact o.tr _ _ _ l x1
    have dn:∀i,i<r->lt (p.getD (r-1) 0) (p.getD i 0)=false:=fun i hi=>by
     by_cases z:i=r-1
     .subst z;exact irr _
     .exact c i (r-1) (by omega) (by omega)
    have al:∀i j,i<r->j<r->lt (p.getD i 0) (p.getD j 0)=false:=fun i j hi hj=>o.tr _ _ _ (dn j hj) (up i hi);refine wC o h0 (fT hp _ _) (by omega) ?_;intro i j hij hj;rw[rE (by omega),rE (by omega),A4 (by omega)];by_cases z:j<r
    .rw[A4 (by omega)];exact al _ _ (by omega) (by omega)
    .rw[A5 (by omega)];have:j=r:=by omega
     subst this;exact o.tr _ _ _ (o.as _ _ hl) (up _ (by omega))
  .rw[A5 g];have:r=1:=by omega
   subst this;refine wC o h0 hp (by omega) ?_;intro i j hij hj;have:i=0:=by omega
   have:j=1:=by omega
   subst i;subst j;exact o.as _ _ hl
theorem AN(o:uV lt)(h0:0<n){p:Array Nat}(hp:Inv2 n p){k:Nat}(hs:gU lt p k){Q:Nat->Prop}(q:∀l,l<=k->(∀i,i<l->lt (p.getD k 0) (p.getD i 0)=false)->(∀i,l<=i->i<k->lt (p.getD k 0) (p.getD i 0)=true)->Q l):
 ∀(f l r:Nat),l<=r->r<=k->r-l<=f->(∀i,i<l->lt (p.getD k 0) (p.getD i 0)=false)->(∀i,r<=i->i<k->lt (p.getD k 0) (p.getD i 0)=true)->KS lt n (kas_place p k f l r) Q
 |0=>fun l r h1 h2 h3 a b=>by
  rw[kas_place.eq_def];have:l=r:=by omega
  subst this;exact q l h2 a b
 |f+1=>fun l r h1 h2 h3 a b=>by
  rw[kas_place.eq_def];show KS lt n (if l>=r then _ else _) Q;by_cases g:l>=r
  .rw[A4 g];have:l=r:=by omega
   subst this;exact q l h2 a b
  .rw[A5 g];refine⟨hp.ent h0 _,hp.ent h0 _,?_⟩;cases c:lt (p.getD k 0) (p.getD ((l+r) / 2) 0)with
   |true=>
    dsimp only;rw[A4 rfl];refine AN o h0 hp hs q f _ _ (by omega) (by omega) (by omega) a fun i x y=>?_;by_cases z:i=(l+r) / 2
    .subst z;exact c
    .exact o.up c (hs _ _ (by omega) y)
   |false=>
    dsimp only;rw[A5 A6];refine AN o h0 hp hs q f _ _ (by omega) (by omega) (by omega) (fun i x=>?_) b;by_cases z:i=(l+r) / 2
    .subst z;exact c
    .exact o.tr _ _ _ (hs i ((l+r) / 2) (by omega) (by omega)) c
theorem OV{p:Array Nat}{src d:Nat}(h:src<p.size)(hd:d<=src)(k:Nat):(bubble p src d).getD k 0=if k=src-d then p.getD src 0 else if src-d<k/\k<=src then p.getD (k-1) 0 else p.getD k 0:=by
 rw[E2,getElem?_bubble h d hd k];by_cases e:k=src-d
 .rw[A4 e,A4 e,E2]
 .rw[A5 e,A5 e];by_cases e2:src-d<k/\k<=src
  .rw[A4 e2,A4 e2,E2]
  .rw[A5 e2,A5 e2,E2]
theorem aAK(o:uV lt)(h0:0<n){Q:Array Nat->Prop}(q:∀p,Inv2 n p->gU lt p n->Q p):∀(f:Nat)(p:Array Nat)(k:Nat),Inv2 n p->k+f=n->gU lt p k->KS lt n (kas_bin f p k) Q
 |0=>fun p k hp hk hs=>by
  rw[kas_bin.eq_def];have:k=n:=by omega
  subst this;exact q p hp hs
 |f+1=>fun p k hp hk hs=>by
  rw[kas_bin.eq_def];have hsz:=hp.sz;refine KS.bind (AN o h0 hp hs (fun l hl a b=>?_) k 0 k (by omega) (by omega) (by omega) (fun i x=>by omega) (fun i x y=>by omega));refine aAK o h0 q f _ (k+1) ((bubble_perm p k (k-l)).trans hp) (by omega) ?_;intro i j hij hj;rw[OV (by omega) (by omega),OV (by omega) (by omega)];have hkl:k-(k-l)=l:=by omega
  rw[hkl];by_cases j1:j=l
  .rw[A4 j1,A5 (by omega),A5 (by omega)];exact a i (by omega)
  .rw[A5 j1];by_cases j2:l<j/\j<=k
   .rw[A4 j2];by_cases i1:i=l
    .rw[A4 i1];exact o.as _ _ (b _ (by omega) (by omega))
    .rw[A5 i1];by_cases i2:l<i/\i<=k
     .rw[A4 i2];exact hs _ _ (by omega) (by omega)
     .rw[A5 i2];exact hs _ _ (by omega) (by omega)
   .rw[A5 j2,A5 (by omega),A5 (by omega)];exact hs _ _ hij (by omega)
theorem aBM(o:uV lt)(h0:0<n):KS lt n (kas_sort n) (fun p=>Inv2 n p/\gU lt p n):=by
 unfold kas_sort;refine KS.bind (KS.mono (fun r h=>?_) (VL o h0 (p:=(List.range n).toArray) (Array.Perm.refl _)));obtain⟨a,b,c,d⟩:=h;by_cases e:r.fst<n
 .rw[A4 e];have hm:max r.fst 1=r.fst:=by omega
  rw[hm];exact aAK o h0 (fun p x y=>⟨x,y⟩) _ _ _ a (by omega) d
 .rw[A5 e];have:r.fst=n:=by omega
  exact⟨a,this▸d⟩
end
end L2
namespace L2
open PySem PySem.Spec PyProof.Rows
noncomputable def jZ:List PyData->Option (List Int)
 |[]=>some []
 |.int n::r=>(jZ r).bind fun ns=>some (n::ns)
 |_=>none
theorem vF{h:Heap}:∀{ds:List PyData}{us:List Value}{as:List Addr}{ns:List Int},ReadsAll h us ds as->jZ ds=some ns->IntsAre us ns
 |[],_,_,_=>fun r e=>by cases r;cases e;exact .nil
 |d::ds,_,_,_=>fun r e=>by
  cases r with
  |cons r1 r2=>
   cases d with
   |int n=>
    have e:(jZ ds).bind (fun ns=>some (n::ns))=some _:=e;obtain⟨ms,h1,h2⟩:=Option.bind_eq_some_iff.mp e;cases h2;cases r1;exact .cons _ _ (vF r2 h1)
   |_=>cases e
noncomputable def fO:PyData->PyData->Option Bool
 |.int a,.int b=>some (decide (a<b))
 |.tuple xs,.tuple ys=>(jZ xs).bind fun ns=>(jZ ys).bind fun ms=>some (HT.lexLt ns ms)
 |_,_=>none
noncomputable def cQ:List PyData->List PyData->Option Bool
 |[],ys=>some (decide (0<ys.length))
 |_::_,[]=>some false
 |x::xs,y::ys=>if PyData.eqv x y=true then cQ xs ys else fO x y
noncomputable def isI:PyData->Bool
 |.int _=>true
 |_=>false
section
variable{prog:Program}{w:World}{A:Around}{E:Value->Shared->Prop}{s:Shared}
theorem aCo{p q:Value}{x y:PyData}{as bs:List Addr}{c fl:Bool}{Q:Bool->Shared->Prop}(hu:A.units<cLine)(r1:Reads s.heap p x as)(r2:Reads s.heap q y bs)(h:fO x y=some c)(hf:fl=true->isI x=true/\isI y=true)(k:Q c s):
 wpAny (model prog w) A (oneLt' fl p q) Q E s:=by
 unfold fO at h;split at h
 .rename_i a b;cases r1;cases r2;cases h;cases fl with
  |true=>exact oneLt_int k
  |false=>exact PySem.W.kat_one _ _ (lt_int k)
 .rename_i xs ys;obtain⟨ns,h1,h⟩:=Option.bind_eq_some_iff.mp h;obtain⟨ms,h2,h⟩:=Option.bind_eq_some_iff.mp h;cases h;cases fl with
  |true=>exact absurd (hf rfl).1 (by intro z;cases z)
  |false=>
   cases r1 with
   |tuple g1 g2 g3 g4=>
    cases r2 with
    |tuple k1 k2 k3 k4=>
     exact PySem.W.kat_one _ _ (HT.lt_tupInts ⟨_,g1,g2,_,g3⟩ ⟨_,k1,k2,_,k3⟩ (vF g4 h1) (vF k4 h2) hu k)
 .cases h
theorem OE{b fin c:Bool}{Q:Bool->Shared->Prop}(hu:A.units+64<cLine)(k:Q c s):∀(xs ys:List PyData)(us ws:List Value)(as bs:List Addr)(i:Nat),ReadsAll s.heap us xs as->ReadsAll s.heap ws ys bs->xs.all SeqAt.shaped=true->ys.all SeqAt.shaped=true->
 cQ xs ys=some c->fin=decide (us.length<ws.length)->((b&&i==0)=true->xs.head?.all isI=true/\ys.head?.all isI=true)->PySem.W.KatLex prog w A b fin Q (us.zip ws) i s
 |[],ys=>fun us ws as bs i r1 r2 s1 s2 h hf hb=>by
  cases r1
  have hl:ws.length=ys.length:=by
   clear k h hf hb s2
   induction r2 using ReadsAll.rec (motive_1:=fun _ _ _ _=>True)with
   |nil=>rfl
   |cons _ _ _ ih=>simp[ih]
   |_=>trivial
  rw[List.zip_nil_left];refine PySem.W.kat_nil ?_;have h:some (decide (0<ys.length))=some c:=h;cases h;rw[hf,hl];exact k
 |x::xs,[]=>fun us ws as bs i r1 r2 s1 s2 h hf hb=>by
  cases r2;rw[List.zip_nil_right];refine PySem.W.kat_nil ?_;cases h;rw[hf];simpa using k
 |x::xs,y::ys=>fun us ws as bs i r1 r2 s1 s2 h hf hb=>by
  cases r1 with
  |cons a1 a2=>
   cases r2 with
   |cons b1 b2=>
    rw[List.all_cons,B3]at s1 s2;rw[List.zip_cons_cons];refine PySem.W.kat_cons ?_;refine SeqAt.eqAt_reads x y A s _ _ _ _ a1 b1 (SeqAt.canLay_of_shaped s1.1) (SeqAt.canLay_of_shaped s2.1) (SeqAt.room_of_shaped s1.1 hu) _ _ _ _ ?_;have h:(if PyData.eqv x y=true then cQ xs ys else fO x y)=some c:=h;cases e:PyData.eqv x y with
    |true=>
     rw[e,A4 rfl]at h;refine PySem.W.kat_yes (OE hu k xs ys _ _ _ _ (i+1) a2 b2 s1.2 s2.2 h ?_ (fun z=>?_))
     .rw[hf];simp
     .simp at z
    |false=>
     rw[e,A5 A6]at h;refine PySem.W.kat_no (aCo (by omega) a1 b1 h (fun z=>?_) k);have:=hb z;simpa using this
end
open PySem PySem.W PyProof.Rows
noncomputable def RN{α:Type}(lt:Nat->Nat->Bool):KasT α->α
 |.ret a=>a
 |.ask i j k=>RN lt (k (lt i j))
noncomputable def KA{α:Type}(n:Nat):KasT α->(α->Prop)->Prop
 |.ret a,Q=>Q a
 |.ask i j k,Q=>i<n/\j<n/\∀b,KA n (k b) Q
section
variable{n:Nat}
theorem KA.bind{α β:Type}{f:α->KasT β}{Q:β->Prop}:∀{t:KasT α},KA n t (fun a=>KA n (f a) Q)->KA n (t.bind f) Q
 |.ret _=>fun h=>h
 |.ask _ _ _=>fun h=>⟨h.1,h.2.1,fun b=>KA.bind (h.2.2 b)⟩
theorem KA.ks{α:Type}{lt:Nat->Nat->Bool}{Q:α->Prop}:∀{t:KasT α},KA n t Q->KS lt n t (fun a=>a=RN lt t/\Q a)
 |.ret _=>fun h=>⟨rfl,h⟩
 |.ask i j _=>fun h=>⟨h.1,h.2.1,KA.ks (h.2.2 (lt i j))⟩
theorem KS.run{α:Type}{lt:Nat->Nat->Bool}{Q:α->Prop}:∀{t:KasT α},KS lt n t Q->Q (RN lt t)
 |.ret _=>fun h=>h
 |.ask i j k=>fun h=>KS.run (t:=k (lt i j)) h.2.2
theorem NO{p:Array Nat}(hp:Inv2 n p)(h0:0<n){Q:Nat->Prop}(q:∀r,Q r):∀(f m:Nat),KA n (kas_asc p f m) Q
 |0=>fun m=>by rw[kas_asc.eq_def];exact q m
 |f+1=>fun m=>by
  rw[kas_asc.eq_def];refine⟨hp.ent h0 _,hp.ent h0 _,fun b=>?_⟩;cases b with
  |true=>exact q m
  |false=>exact NO hp h0 q f (m+1)
theorem xX(h0:0<n){Q:Array Nat×Nat×Nat->Prop}(k:∀p m q,Inv2 n p->Q (p,m,q)):∀(f:Nat)(p:Array Nat)(m q:Nat),Inv2 n p->KA n (kas_desc f p m q) Q
 |0=>fun p m q hp=>by rw[kas_desc.eq_def];exact k p m q hp
 |f+1=>fun p m q hp=>by
  rw[kas_desc.eq_def];refine⟨hp.ent h0 _,hp.ent h0 _,fun b=>?_⟩;cases b with
  |true=>
   dsimp only;rw[A4 rfl];by_cases hq:q > 0
   .rw[A4 hq];exact xX h0 k f _ _ _ (fT hp _ _)
   .rw[A5 hq];exact xX h0 k f _ _ _ hp
  |false=>
   dsimp only;rw[A5 A6];refine⟨hp.ent h0 _,hp.ent h0 _,fun b=>?_⟩;cases b with
   |true=>exact k p m q hp
   |false=>exact xX h0 k f _ _ _ hp
theorem KL(h0:0<n){p:Array Nat}{m:Nat}(hp:Inv2 n p):KA n (kas_tail3 m n p) (fun r=>Inv2 n r.2):=by
 rw[kas_tail3.eq_def];exact KA.bind (NO (fT hp 0 m) h0 (fun r=>fT hp 0 m) _ _)
theorem wW(h0:0<n){p:Array Nat}{m:Nat}(hp:Inv2 n p):KA n (kas_descPart m n p) (fun r=>Inv2 n r.2):=by
 rw[kas_descPart.eq_def];refine KA.bind (xX h0 (fun p' m' q' a=>?_) _ _ _ _ hp);show KA n (if q' > 0 then kas_tail3 m' n (kas_rev p' (m'-(q'+1)) m')else kas_tail3 m' n p') _;by_cases hq:q' > 0
 .rw[A4 hq];exact KL h0 (fT a _ _)
 .rw[A5 hq];exact KL h0 a
theorem UP(h0:0<n){p:Array Nat}(hp:Inv2 n p):KA n (kas_count n p) (fun r=>Inv2 n r.2):=by
 rw[kas_count.eq_def];refine KA.bind (NO hp h0 (fun r=>?_) _ _);by_cases e:(r==n)=true
 .rw[A4 e];exact hp
 .rw[A5 e];by_cases g:r > 1
  .rw[A4 g];refine⟨hp.ent h0 _,hp.ent h0 _,fun b=>?_⟩;cases b with
   |true=>exact hp
   |false=>exact wW h0 (fT hp _ _)
  .rw[A5 g];exact wW h0 hp
theorem zE(h0:0<n){p:Array Nat}(hp:Inv2 n p){k:Nat}{Q:Nat->Prop}(q:∀l,Q l):∀(f l r:Nat),KA n (kas_place p k f l r) Q
 |0=>fun l r=>by rw[kas_place.eq_def];exact q l
 |f+1=>fun l r=>by
  rw[kas_place.eq_def];show KA n (if l>=r then _ else _) Q;by_cases g:l>=r
  .rw[A4 g];exact q l
  .rw[A5 g];refine⟨hp.ent h0 _,hp.ent h0 _,fun b=>?_⟩;cases b with
   |true=>exact zE h0 hp q f _ _
   |false=>exact zE h0 hp q f _ _
theorem aAA(h0:0<n):∀(f:Nat)(p:Array Nat)(k:Nat),Inv2 n p->KA n (kas_bin f p k) (Inv2 n)
 |0=>fun p k hp=>by rw[kas_bin.eq_def];exact hp
 |f+1=>fun p k hp=>by
  rw[kas_bin.eq_def];exact KA.bind (zE h0 hp (fun l=>aAA h0 f _ (k+1) ((bubble_perm p k (k-l)).trans hp)) k 0 k)
theorem FE(h0:0<n):KA n (kas_sort n) (Inv2 n):=by
 unfold kas_sort;have:=UP h0 (p:=(List.range n).toArray) (Array.Perm.refl _);refine KA.bind ?_
 have mono:∀{α:Type}{Q R:α->Prop}(m:∀a,Q a->R a)(t:KasT α),KA n t Q->KA n t R:=by
  intro α Q R m t
  induction t with
  |ret a=>exact m a
  |ask i j k ih=>exact fun h=>⟨h.1,h.2.1,fun b=>ih b (h.2.2 b)⟩
 refine mono (fun r a=>?_) _ this;by_cases e:r.fst<n
 .rw[A4 e];exact aAA h0 _ _ _ a
 .rw[A5 e];exact a
noncomputable def dB(lt:Nat->Nat->Bool)(n:Nat):List Nat:=(RN lt (kas_sort n)).toList
theorem lO(lt:Nat->Nat->Bool)(h0:0<n):(dB lt n).Perm (List.range n):=by
 have:=KS.run (KA.ks (lt:=lt) (FE h0));simpa[dB]using Array.perm_iff_toList_perm.mp this.2
end
end L2
namespace L2
variable{K:Fg}{H:Hp}{W:Wd}{σ:St}{M:Sto}
open PySem PySem.Spec PyProof.Rows
mutual
noncomputable def dQ:PyData->Bool
 |.int _=>true
 |.tuple xs=>cJ xs
 |_=>false
noncomputable def cJ:List PyData->Bool
 |[]=>true
 |x::r=>dQ x&&cJ r
end
mutual
theorem rk{h h':Heap}(k:∀b o vs n,h.get? b=some o->o.data=.seq vs n->h'.get? b=some o):∀(d:PyData)(v:Value)(as:List Addr),dQ d=true->Reads h v d as->Reads h' v d as
 |.int n=>fun _ _ _ r=>by cases r;exact .int _ _
 |.tuple xs=>fun _ _ e r=>by
  cases r with
  |tuple a b c d=>exact .tuple (k _ _ _ _ a c) b c (QF k xs _ _ (by unfold dQ at e;exact e) d)
 |.none=>fun _ _ e _=>by unfold dQ at e;cases e
 |.bool _=>fun _ _ e _=>by unfold dQ at e;cases e
 |.str _=>fun _ _ e _=>by unfold dQ at e;cases e
 |.list _=>fun _ _ e _=>by unfold dQ at e;cases e
 |.dict _=>fun _ _ e _=>by unfold dQ at e;cases e
theorem QF{h h':Heap}(k:∀b o vs n,h.get? b=some o->o.data=.seq vs n->h'.get? b=some o):∀(ds:List PyData)(vs:List Value)(as:List Addr),cJ ds=true->ReadsAll h vs ds as->ReadsAll h' vs ds as
 |[]=>fun _ _ _ r=>by cases r;exact .nil
 |d::ds=>fun _ _ e r=>by
  cases r with
  |cons a b=>
   unfold cJ at e;rw[B3]at e;exact .cons (rk k d _ _ e.1 a) (QF k ds _ _ e.2 b)
end
theorem ReadsAll.at{h:Heap}:∀{ds:List PyData}{vs:List Value}{as:List Addr}(i:Nat),ReadsAll h vs ds as->i<ds.length->∃bs,Reads h (vs.getD i .none) (ds.getD i .none) bs
 |[],_,_,i=>fun _ hi=>absurd hi (Nat.not_lt_zero _)
 |d::ds,_,_,0=>fun r _=>by cases r with|cons a b=>exact⟨_,a⟩
 |d::ds,_,_,i+1=>fun r hi=>by
  cases r with
  |cons a b=>
   obtain⟨bs,x⟩:=ReadsAll.at i b (Nat.lt_of_succ_lt_succ hi);exact⟨bs,x⟩
theorem ReadsAll.len{h:Heap}:∀{ds:List PyData}{vs:List Value}{as:List Addr},ReadsAll h vs ds as->vs.length=ds.length
 |[],_,_=>fun r=>by cases r;rfl
 |d::ds,_,_=>fun r=>by
  cases r with
  |cons a b=>simp[ReadsAll.len b]
section
variable{prog:Program}{w:World}{A:Around}{E:Value->Shared->Prop}{s:Shared}
theorem YO{b c:Bool}{p q:Value}{xs ys:List PyData}{as bs:List Addr}{Q:Bool->Shared->Prop}(hu:A.units+64<cLine)(r1:Reads s.heap p (.tuple xs) as)(r2:Reads s.heap q (.tuple ys) bs)
 (s1:xs.all SeqAt.shaped=true) (s2:ys.all SeqAt.shaped=true) (h:cQ xs ys=some c) (hb:b=true->xs.head?.all isI=true/\ys.head?.all isI=true) (k:Q c s):wpAny (model prog w) A (keyLt' (tuples' b) p q) Q E s:=by
 cases r1 with
 |tuple a1 a2 a3 a4=>
  cases r2 with
  |tuple b1 b2 b3 b4=>
   refine PySem.W.kat_lt a1 a3 b1 b3 (OE hu k xs ys _ _ _ _ 0 a4 b4 s1 s2 h (by simp) (fun z=>hb ?_));simpa using z
noncomputable def iO(rows:List (List PyData)):Bool:=rows.all fun r=>match r with
 |.int _::_=>true
 |_=>false
noncomputable def oF(rows:List (List PyData)):Bool:=rows.all fun r=>match r with
 |.tuple _::_=>true
 |_=>false
theorem aFd{M:Model}{h:Heap}(n:Int)(t:Tok):PySem.W.Looks M h (typeOf (.int n t)) (.type "int"):=fun A Q E s _ q=>by
 show wpAny M A (pure _) Q E s;exact A3 q
theorem firstsI{h:Heap}:∀{rows:List (List PyData)}{vs:List Value}{as:List Addr},ReadsAll h vs (rows.map .tuple) as->iO rows=true->∃fs,PySem.W.KatTups h vs fs/\fs.length=rows.length/\∀v∈fs,∃n t,v=.int n t
 |[],_,_=>fun r _=>by cases r;exact⟨[],.nil,rfl,fun v hv=>nomatch hv⟩
 |x::rows,_,_=>fun r e=>by
  unfold iO at e;rw[List.all_cons,B3]at e;cases r with
  |cons a b=>
   obtain⟨fs,h1,h2,h3⟩:=firstsI b (by unfold iO;exact e.2);cases x with
   |nil=>exact absurd e.1 (by decide)
   |cons d ds=>
    cases d with
    |int n=>
     cases a with
     |tuple g1 g2 g3 g4=>
      rename_i o vs n' ;generalize hv:vs.toList=l at g4;cases g4 with
      |cons q1 q2=>
       cases q1 with
       |int _ t=>
        refine⟨.int n t::fs,.cons g1 g2 g3 (f:=.int n t) ?_ h1,by simp[h2],?_⟩
        .rw[<- U9,hv];rfl
        .intro v hv';rcases List.mem_cons.mp hv' with z|z
         .exact⟨_,_,z⟩
         .exact h3 v z
    |_=>exact absurd e.1 (by intro z;cases z)
end
section
variable{prog:Program}{w:World}{A:Around}{E:Value->Shared->Prop}{s:Shared}
theorem aEH{M:Model}{h:Heap}{a:Addr}{o:Obj}(g:h.get? a=some o)(c:o.cls=.type "tuple"):PySem.W.Looks M h (typeOf (.ref a)) (.type "tuple"):=fun A Q E s k q=>Y3 (show s.TypeIs (.ref a) "tuple" from⟨o,k _ _ g,c⟩) q
theorem OD{h:Heap}:∀{rows:List (List PyData)}{vs:List Value}{as:List Addr},ReadsAll h vs (rows.map .tuple) as->oF rows=true->∃fs,PySem.W.KatTups h vs fs/\fs.length=rows.length/\∀v∈fs,∃a o,v=.ref a/\h.get? a=some o/\o.cls=.type "tuple"
 |[],_,_=>fun r _=>by cases r;exact⟨[],.nil,rfl,fun v hv=>nomatch hv⟩
 |x::rows,_,_=>fun r e=>by
  unfold oF at e;rw[List.all_cons,B3]at e;cases r with
  |cons a b=>
   obtain⟨fs,h1,h2,h3⟩:=OD b (by unfold oF;exact e.2);cases x with
   |nil=>exact absurd e.1 (by decide)
   |cons d ds=>
    cases d with
    |tuple ys=>
     cases a with
     |tuple g1 g2 g3 g4=>
      rename_i o vs n';generalize hv:vs.toList=l at g4;cases g4 with
      |cons q1 q2=>
       cases q1 with
       |@tuple a' _ _ _ _ _ k1 k2 k3 k4=>
        refine⟨.ref a'::fs,.cons g1 g2 g3 (f:=.ref a') ?_ h1,by simp[h2],?_⟩
        .rw[<- U9,hv];rfl
        .intro v hv';rcases List.mem_cons.mp hv' with z|z
         .exact⟨_,_,z,k1,k2⟩
         .exact h3 v z
    |_=>exact absurd e.1 (by intro z;cases z)
theorem DN{M:Model}{rows:List (List PyData)}{vs:List Value}{as:List Addr}{Q:SortKind->Shared->Prop}(r:ReadsAll s.heap vs (rows.map .tuple) as)(h0:0<rows.length)(hk:iO rows=true\/oF rows=true)(q:Q (tuples' (iO rows)) s):wpAny M A (keyKind' vs.toArray) Q E s:=by
 rcases hk with hk|hk
 .obtain⟨fs,h1,h2,h3⟩:=firstsI r hk;rw[hk]at q;refine PySem.W.kat_kind (T:=.type "int") h1 (by omega) (fun v hv=>?_) (by decide) q;obtain⟨n,t,rfl⟩:=h3 v hv;exact aFd n t
 .obtain⟨fs,h1,h2,h3⟩:=OD r hk
  have e:iO rows=false:=by
   cases rows with
   |nil=>cases h0
   |cons x r=>
    unfold oF at hk;rw[List.all_cons,B3]at hk;cases x with
    |nil=>rfl
    |cons d ds=>cases d<;>first|rfl|exact absurd hk.1 (by intro z;cases z)
  rw[e]at q;refine PySem.W.kat_kind (T:=.type "tuple") h1 (by omega) (fun v hv=>?_) (by decide) q;obtain⟨a,o,rfl,g,c⟩:=h3 v hv;exact aEH g c
end
section
variable{X:Cx}{pins:List (Addr×Obj)}{σ:St}{H:Hp}{s:Shared}{h':Heap}
theorem cK.there{P:Program}{w:World}{h:Heap}{a:Addr}{o:HO}(x:cK P w H h a o):∃u,h.get? a=some u:=by
 induction o with
 |lst xs=>obtain⟨_,_,_,_,e⟩:=x;exact⟨_,e⟩
 |tup xs=>obtain⟨_,_,_,_,e,_⟩:=x;exact⟨_,e⟩
 |dK kvs=>obtain⟨_,_,_,_,o,_,_,e,_⟩:=x;exact⟨_,e⟩
 |dT kvs=>obtain⟨_,_,_,_,o,_,_,e,_⟩:=x;exact⟨_,e⟩
 |set S n=>obtain⟨o,_,_,_,e,_⟩:=x;exact⟨_,e⟩
 |ins C dx fs=>obtain⟨_,_,_,e,_⟩:=x;exact⟨_,e⟩
 |own y=>exact x
 |xd fs=>obtain⟨_,⟨_,_,_,e,_⟩,_⟩:=x;exact⟨_,e⟩
 |rng lo hi=>obtain⟨_,_,_,e⟩:=x;exact⟨_,e⟩
 |frz o u=>exact⟨_,x.1⟩
 |tbl ps=>exact⟨_,x⟩
 |met f x'=>exact⟨_,x⟩
 |ext φ=>exact x.2.1
theorem HOk.none{P:Program}{w:World}{h:Heap}{a:Addr}(x:HOk P w H h)(e:h.get? a=none):H a=none:=by
 cases q:H a with
 |none=>rfl
 |some o=>
  obtain⟨u,z⟩:=(x a o q).there;rw[e]at z;cases z
theorem Inv.laidL{a:Addr}{o:HO}(I:Inv X pins σ H s)(k:∀b u,b≠X.env.locals->s.heap.get? b=some u->h'.get? b=some u)(ns:∀m,s.heap.Ns X.env.locals m->h'.Ns X.env.locals m)(hp:s.heap.get? a=none)(new:cK X.prog X.w (upd H a o) h' a o):
 Inv X pins σ (upd H a o) { s with heap:=h' }:=by
 have hn:=I.hok.none hp;have nt:∀b u,H b=some u->b≠X.env.locals:=fun b u e z=>by rw[z,I.free]at e;cases e
 refine I.step (g':=s.gens) (t':=s.toks) (d':=s.drawn) (ch:=[]) (fun _ z=>nomatch z) (fun b o h1 _ _ e _=>k b o h1 e) (fun b o h1 _ _ e _=>⟨o.slots,k b o h1 e⟩) (fun b o _ e n=>?_) (fun b o _ e=>?_) (fun b xs e=>?_) (fun b o u e=>?_) (fun b ps e=>⟨#[],?_⟩) ns ?_ I.bare
 .rw[aJ (fun z=>by subst z;rw[hp]at e;cases e)];exact n
 .by_cases z:b=X.env.locals
  .subst z;obtain⟨m,hm,_⟩:=I.loc;obtain⟨o',_,_,q,_⟩:=ns m hm;exact⟨o',q⟩
  .exact⟨o,k b o z e⟩
 .rw[aJ (aO e hn)];exact e
 .rw[aJ (aO e hn)];exact e
 .rw[aJ (aO e hn)];simpa using e
 .intro b u e;by_cases hb:b=a
  .subst hb;rw[aP]at e;cases e;exact new
  .rw[aJ hb]at e;refine(I.hok b u e).stay (fun c v hc q=>k c v ?_ q) (fun c q=>by rw[aJ (aO q hn)];exact q) fun c xs q=>by rw[aJ (aO q hn)];exact q
   rcases hc with z|z
   .rw[z];exact nt b _ e
   .exact nt c _ z
theorem OU{h:Heap}{L:Addr}{m m':Str->Option Value}(a:h.Ns L m)(b:h.Ns L m'):m=m':=by
 obtain⟨o,es,ep,h1,h2,_,h3⟩:=a;obtain⟨o',es',ep',k1,k2,_,k3⟩:=b;rw[h1]at k1;cases k1;rw[h2]at k2;cases k2;funext x;rw[<- h3 x,k3 x]
noncomputable def dX(rows:List (List PyData))(i j:Nat):Bool:=(cQ (rows.getD i []) (rows.getD j [])).getD false
noncomputable def MQ(K:Fg):List V->Hp->VK->Prop:=fun xs H Q=>∃(p:Addr)(vs:List V)(rows:List (List PyData)),xs=[.ref p]/\SqL K H p vs/\aK K H (rows.map .tuple) vs/\2<=rows.length/\rows.length<64 /\
 (∀r∈rows,r.all SeqAt.shaped=true/\cJ r=true)/\(iO rows=true\/oF rows=true)/\(∀i j,i<rows.length->j<rows.length->(cQ (rows.getD i []) (rows.getD j [])).isSome=true) /\
 ∀l,H l=none->Q (.ref l) (upd H l (.lst ((dB (dX rows) rows.length).map fun i=>vs.getD i .non)))
theorem vM{vs:List V}{us:List Value}(r:bC vs us):∀ps:List Nat,bC (ps.map fun i=>vs.getD i .non) (ps.map fun i=>us.getD i .none)
 |[]=>.nil
 |p::ps=>by
  refine .cons ?_ (vM r ps)
  have go:∀{vs:List V}{us:List Value}(i:Nat),bC vs us->RelV (vs.getD i .non) (us.getD i .none):=by
   intro vs us i r
   induction r generalizing i with
   |nil=>exact rfl
   |cons a b ih=>cases i with
    |zero=>exact a
    |succ i=>exact ih i
  exact go p r
theorem GK(hu:X.A.in1.in1.units+64<cLine):eD X (.builtin "sorted") (MQ X.K):=by
 intro pins s σ H xs us Q I r h;obtain⟨p,vs,rows,rfl,hp,hrep,h2,h64,hsh,hknd,hlt,q⟩:=h;obtain⟨u,rfl,ru⟩:=vals1 r;cases ru;obtain⟨its,rv,pl,hz⟩:=I.list hp;obtain⟨as,hr⟩:=aK.reads I _ vs its hrep rv;have hlen:its.length=rows.length:=by rw[ReadsAll.len hr,A9]
 obtain⟨m,F⟩:=I.fr;have N:News X.base X.env.locals s.heap (lF X.base s.heap X.env.locals):=JY;refine PySem.W.kat_sorted F N pl.isList (by omega) (by omega) fun D e1 h' F' N' hD=>?_
 have kp:∀(h1:Heap),Fr X.base X.env.locals h1 m->(∀q∈lF X.base s.heap X.env.locals,h1.get? q.1=some q.2)->∀b o,b≠X.env.locals->s.heap.get? b=some o->h1.get? b=some o:=fun h1 G1 M1 b o hb e=>by
  cases z:X.base.get? b with
  |some v=>
   have:=I.bk b v z;rw[e]at this;cases this;exact G1.keep b _ z
  |none=>exact M1 (b,o) (lC hb z e)
 have k':=kp h' F' (fun q hq=>(N' q (B4 _ hq)).1)
 have hsz:s.heap.get? D=none:=by
  have hN:=N' _ B5;cases e:s.heap.get? D with
  |none=>rfl
  |some o=>exact absurd (hD (D,o) (lC hN.2.1 hN.2.2 e)) (F8 _)
 have seqL:∀b o vs n,s.heap.get? b=some o->o.data=.seq vs n->b≠X.env.locals:=fun b o vs n e d z=>by
  obtain⟨o',es,ep,x1,x2,_⟩:=F.ns;subst z;rw[e]at x1;cases x1;rw[d]at x2;cases x2
 have onl:cJ (rows.map .tuple)=true:=by
  clear hrep hr hlen q hknd hlt h2 h64
  induction rows with
  |nil=>rfl
  |cons x r ih=>
   show(cJ x&&cJ (r.map .tuple))=true;rw[(hsh x B5).2,ih fun y hy=>hsh y (B4 _ hy)];rfl
 have hr':ReadsAll h' its (rows.map .tuple) as:=QF (fun b o vs n e d=>k' b o (seqL b o vs n e d) e) _ _ _ onl hr;refine DN (s:={ s with heap:=h' }) hr' (by omega) hknd ?_;rw[hlen];refine KS.wp (lt:=dX rows) (n:=rows.length) (fun i j C hi hj c=>?_) (fun p hp'=>?_) ((FE (by omega)).ks (lt:=dX rows))
 .have at_:∀i,i<rows.length->∃bs,Reads h' (its.getD i .none) (.tuple (rows.getD i [])) bs:=fun i hi=>by
   obtain⟨bs,x⟩:=ReadsAll.at i hr' (by simpa using hi)
   have:(rows.map PyData.tuple).getD i .none=.tuple (rows.getD i []):=by
    rw[C0,D6,C0,B1 hi];rfl
   rw[this]at x;exact⟨bs,x⟩
  obtain⟨b1,r1⟩:=at_ i hi;obtain⟨b2,r2⟩:=at_ j hj
  have mem:∀i,i<rows.length->rows.getD i []∈rows:=fun i hi=>by
   rw[C0,B1 hi];exact J8 hi
  have hd:iO rows=true->∀r∈rows,r.head?.all isI=true:=fun z r hr=>by
   unfold iO at z;have:=List.all_eq_true.mp z r hr;cases r with
   |nil=>rfl
   |cons d ds=>cases d<;>first|rfl|exact absurd this (by intro z;cases z)
  obtain⟨c0,hc0⟩:=Option.isSome_iff_exists.mp (hlt i j hi hj);have hc:dX rows i j=c0:=by unfold dX;rw[hc0];rfl
  rw[hc]at c;exact YO (s:={ s with heap:=h' }) hu r1 r2 (hsh _ (mem i hi)).1 (hsh _ (mem j hj)).1 hc0 (fun z=>⟨hd z _ (mem i hi),hd z _ (mem j hj)⟩) c
 .obtain⟨e,_⟩:=hp';subst e;refine PySem.W.KasFin.intro F' N' (.head fun q hq=>B6 (hD q hq)) fun h'' c F'' N''=>?_;have k'':=kp h'' F'' (fun q hq=>(N'' q (B4 _ hq)).1);refine⟨.ref D,upd H D (.lst ((dB (dX rows) rows.length).map fun i=>vs.getD i .non)),?_,rfl,q D (I.hok.none hsz)⟩;refine I.laidL k'' (fun m' hm'=>?_) hsz ⟨?_,_,c,vM rv _,(N'' _ B5).1⟩
  .rw[<- OU F.ns hm'];exact F''.ns
  .rw[A9,(lO (dX rows) (by omega)).length_eq,List.length_range];have:64<=sizeLine:=by decide
   omega
end
noncomputable def rowsOf:List PyData->Option (List (List PyData))
 |[]=>some []
 |.tuple r::ds=>(rowsOf ds).bind fun rs=>some (r::rs)
 |_=>none
theorem vH:∀{ds:List PyData}{rows:List (List PyData)},rowsOf ds=some rows->ds=rows.map .tuple
 |[],_=>fun h=>by cases h;rfl
 |d::ds,rows=>fun h=>by
  cases d with
  |tuple r=>
   have h:(rowsOf ds).bind (fun rs=>some (r::rs))=some rows:=h;obtain⟨rs,h1,h2⟩:=Option.bind_eq_some_iff.mp h;cases h2;rw[vH h1];rfl
  |_=>cases h
noncomputable def sortable(rows:List (List PyData)):Bool:=decide (2<=rows.length)&&decide (rows.length<64)&&rows.all (fun r=>r.all SeqAt.shaped&&cJ r)&&(iO rows || oF rows)&&(List.range rows.length).all fun i=>(List.range rows.length).all fun j=>(cQ (rows.getD i []) (rows.getD j [])).isSome
noncomputable def DC(rows:List (List PyData)):List PyData:=(dB (dX rows) rows.length).map fun i=>.tuple (rows.getD i [])
noncomputable def xR:FN:=fun xs M=>match xs with
 |[.d (.list ds)]=>(rowsOf ds).bind fun rows=>if sortable rows=true then some (.d (.list (DC rows)),M)else none
 |[.c i]=>match M[i]? with
  |some (.lst ys)=>(hV ys).bind fun ds=>(rowsOf ds).bind fun rows=>if sortable rows=true then some (.d (.list (DC rows)),M)else none
  |_=>none
 |_=>none
theorem iM{rows:List (List PyData)}(h:sortable rows=true):2<=rows.length/\rows.length<64/\(∀r∈rows,r.all SeqAt.shaped=true/\cJ r=true)/\(iO rows=true\/oF rows=true)/\(∀i j,i<rows.length->j<rows.length->(cQ (rows.getD i []) (rows.getD j [])).isSome=true):=by
 unfold sortable at h;rw[B3,B3,B3,B3,Bool.or_eq_true]at h;obtain⟨⟨⟨⟨h1,h2⟩,h3⟩,h4⟩,h5⟩:=h;refine⟨C2 h1,C2 h2,fun r hr=>?_,h4,fun i j hi hj=>?_⟩
 .have:=List.all_eq_true.mp h3 r hr
  rwa [B3]at this
 .exact List.all_eq_true.mp (List.all_eq_true.mp h5 i (List.mem_range.mpr hi)) j (List.mem_range.mpr hj)
section
variable{K:Fg}
theorem aK.len{H:Hp}:∀{ds:List PyData}{vs:List V},aK K H ds vs->vs.length=ds.length
 |[],_=>fun h=>by
  have h:_=[]:=h;rw[h];rfl
 |d::ds,_=>fun h=>by
  obtain⟨v,r,rfl,_,h2⟩:=(show ∃v r,_=v::r/\Rep K H d v/\aK K H ds r from h);simp[aK.len h2]
theorem tW{H:Hp}{rows:List (List PyData)}{us:List V}(r:aK K H (rows.map .tuple) us):∀ps:List Nat,(∀i∈ps,i<rows.length)->aK K H (ps.map fun i=>.tuple (rows.getD i [])) (ps.map fun i=>us.getD i .non)
 |[]=>fun _=>rfl
 |p::ps=>fun hp=>by
  refine⟨_,_,rfl,?_,tW r ps fun i hi=>hp i (B4 _ hi)⟩;have hi:=hp p B5;have hl:=aK.len r;rw[A9]at hl
  have hu:us[p]?=some (us.getD p .non):=by
   rw[C0,B1 (by omega)];rfl
  obtain⟨d,h1,h2⟩:=aK.get r hu;rw[D6,B1 hi]at h1;cases h1;have e:rows.getD p []=rows[p]:=by rw[C0,B1 hi];rfl
  show Rep K H (.tuple (rows.getD p [])) (us.getD p .non);rw[e];exact h2
theorem ZH{lt:Nat->Nat->Bool}{n:Nat}(h0:0<n):∀i∈dB lt n,i<n:=fun i hi=>List.mem_range.mp ((lO lt h0).mem_iff.mp hi)
theorem RH:PN K (MQ K) xR:=by
 intro xs M z M' h W H vs Q G r k;unfold xR at h;split at h
 .rename_i ds;obtain⟨rows,h1,h⟩:=aG h;by_cases hs:sortable rows=true
  .rw[A4 hs]at h;cases h;obtain⟨a1,a2,a3,a4,a5⟩:=iM hs;rcases r with _|⟨r1,_|_⟩;obtain⟨p,us,rfl,hq,hr⟩:=(show ∃a us,_=V.ref a/\SqL K W.F a us/\aK K W.F ds us from r1);rw[vH h1]at hr;refine⟨p,us,rows,rfl,G.fh.seq hq,aK.same G.fh _ _ hr,a1,a2,a3,a4,a5,fun l hl=>?_⟩;obtain⟨e2,G2⟩:=G.lay (o:=.lst ((dB (dX rows) rows.length).map fun i=>us.getD i .non)) hl;exact k _ _ _ e2 G2 ⟨l,_,rfl,SqL.of aP,tW (aK.same e2.ff _ _ hr) _ (ZH (by omega))⟩
  .rw[A5 hs]at h;cases h
 .rename_i i;split at h
  .rename_i ys hy;obtain⟨ds,h0,h⟩:=aG h;obtain⟨rows,h1,h⟩:=aG h;by_cases hs:sortable rows=true
   .rw[A4 hs]at h;cases h;obtain⟨a1,a2,a3,a4,a5⟩:=iM hs;rcases r with _|⟨r1,_|_⟩;obtain⟨us,hv,hr⟩:=G.lstAt hy;have hr:=cX h0 hr;rw[vH h1]at hr;rw[r1.2];refine⟨_,us,rows,rfl,SqL.of hv,aK.same G.fh _ _ hr,a1,a2,a3,a4,a5,fun l hl=>?_⟩;obtain⟨e2,G2⟩:=G.lay (o:=.lst ((dB (dX rows) rows.length).map fun i=>us.getD i .non)) hl;exact k _ _ _ e2 G2 ⟨l,_,rfl,SqL.of aP,tW (aK.same e2.ff _ _ hr) _ (ZH (by omega))⟩
   .rw[A5 hs]at h;cases h
  .cases h
 .cases h
end
theorem bS.units2{k:Nat}{A:Around}(r:bS k A):A.in1.in1.units+64<cLine:=by have:=r.un;show A.units+1+1+64<_;omega
section
variable{prog:Program}{w:World}{A:Around}{E:Value->Shared->Prop}{s:Shared}
theorem oK{a:Addr}{vs:List Value}{n:Nat}{P:PySem.Fin->Shared->Prop}(g:s.heap.get? a=some (seqObj "list" vs.toArray n))(h2:vs.length<2)
 (k:P (.done (.ret .none)) { s with heap:=sortedHeap s.heap a vs vs.toArray }):wpAny (model prog w) A (Builtin.«list.sort» ⟨[.ref a],[]⟩) P E s:=by
 rw[list_sort_plain];have hz:vs.toArray.size<=sizeLine:=by rw[C5,D5];omega
 refine A0 (listItems_at g rfl ?_);refine A0 (listUpdate_at g rfl ?_ hz (by simp));have g1:=Y7 g (fun _=>#[]);have hlt:=A8 g1;refine A0 (seqEpoch_at g1 rfl ?_);refine A0 (wpAny_newTuple ?_ (by simpa using hz));refine A0 (wpAny_newList ?_);refine D4 ?_;have hs:vs.toArray.size<2:=by simpa using h2
 dsimp only;rw[A4 hs,A4 hs];refine A0 (A3 ?_);refine A0 ?_;show wpAny (model prog w) A (pure ((),SortSt.mk' general' (vs.toArray.zip vs.toArray) #[] 7 none)) _ E _;refine A3 ?_;dsimp only;have g2:=A2 { cls:=.type "tuple",data:=.seq vs.toArray.toList.toArray } g1;have g3:=A2 { cls:=.type "list",data:=.seq ([]:List Value).toArray } g2;refine A0 (seqEpoch_at g3 rfl ?_)
 have hm:Array.map (fun x=>x.snd) (arrOf (SortSt.mk' general' (vs.toArray.zip vs.toArray) #[] 7 none))=vs.toArray:=by
  show Array.map (fun x=>x.snd) (vs.toArray.zip vs.toArray)=vs.toArray
  apply Array.ext
  .simp
  .intro i h1 h2;simp
 rw[hm];refine A0 (listUpdate_at g3 rfl ?_ (by simp) (by omega));rw[A5 (by simp)];exact A3 k
theorem HC{l:Addr}{vs:List Value}{Q:Value->Shared->Prop}(g:s.heap.IsList l vs.toArray)(h2:vs.length<2)
 (k:∀(h':Heap)(D:Addr),(∀b o,s.heap.get? b=some o->h'.get? b=some o)->s.heap.objs.size<=D->(∃c,h'.get? D=some (seqObj "list" vs.toArray c))->Q (.ref D) { s with heap:=h' }):wpAny (model prog w) A (call (.builtin "sorted") [.ref l]) Q E s:=by
 refine Calls.call_function_entry kind_sorted plain_sorted entry_sorted (args_sorted1 _) ?_;have hz:vs.length<=sizeLine:=by rw[D5];omega
 unfold Builtin.sorted;refine A0 (show wpAny _ _ (pure ()) _ _ _ from A3 ?_);refine A0 (collect_list g ?_ hz);refine A0 (wpAny_newList ?_ hz);generalize hh1:(s.heap.push (seqObj "list" #[] 0)).update s.heap.objs.size (Obj.mapSeq fun x=>x++vs.toArray)=h1
 have k1:∀b o,s.heap.get? b=some o->h1.get? b=some o:=fun b o e=>by
  rw[<- hh1,U4 _ _ _ _ (B6 (A8 e))];exact A2 _ e
 have sz1:s.heap.objs.size<=h1.objs.size:=by
  have e1:(s.heap.push (seqObj "list" #[] 0)).get? s.heap.objs.size=some (seqObj "list" #[] 0):=B0 _ rfl;have e2:=Y7 e1 (fun x=>x++vs.toArray);rw[hh1]at e2;exact S1 (A8 e2)
 refine A0 (D4 ?_);have gD:(h1.push { cls:=.type "list",data:=.seq vs.toArray }).get? h1.objs.size=some (seqObj "list" vs.toArray 0):=B0 _ rfl;refine F7 slot_list_sort ⟨_,gD,rfl⟩ entry_list_sort (oK gD h2 ⟨_,rfl,?_⟩) (args_list_sort _);refine A3 ⟨_,rfl,k _ _ (fun b o e=>?_) sz1 ?_⟩
 .have hb:b≠h1.objs.size:=B6 (A8 (k1 b o e));unfold sortedHeap;rw[U4 _ _ _ _ hb];refine A2 _ (A2 _ ?_);rw[U4 _ _ _ _ hb];exact A2 _ (k1 b o e)
 .unfold sortedHeap;have g1:=Y7 gD (fun _=>#[]);have g2:=A2 (seqObj "tuple" vs.toArray 0) g1;have g3:=A2 (seqObj "list" #[] 0) g2;exact⟨_,Y7 g3 (fun _=>vs.toArray)⟩
end
noncomputable def MV(K:Fg):List V->Hp->VK->Prop:=fun xs H Q=>∃(p:Addr)(vs:List V),xs=[.ref p]/\SqL K H p vs/\vs.length<2/\∀l,H l=none->Q (.ref l) (upd H l (.lst vs))
theorem FS{X:Cx}:eD X (.builtin "sorted") (MV X.K):=by
 intro pins s σ H xs us Q I r h;obtain⟨p,vs,rfl,hp,h2,q⟩:=h;obtain⟨u,rfl,ru⟩:=vals1 r;cases ru;obtain⟨its,rv,pl,hz⟩:=I.list hp;have hl:=rv.length;refine HC pl.isList (by omega) fun h' D k hD ⟨c,g⟩=>?_;exact⟨.ref D,upd H D (.lst vs),I.laid (t':=s.toks) k hD ⟨hz,its,c,rv,g⟩,rfl,q D (I.hok.fresh hD)⟩
noncomputable def XE(K:Fg):List V->Hp->VK->Prop:=fun xs H Q=>MQ K xs H Q\/MV K xs H Q
theorem aGv{X:Cx}(h:X.K=K)(hu:X.A.in1.in1.units+64<cLine):eD X (.builtin "sorted") (XE K):=by
 subst h;intro pins s σ H xs us Q I r h;rcases h with h|h
 .exact GK hu pins s σ H xs us Q I r h
 .exact FS pins s σ H xs us Q I r h
noncomputable def AK:FN:=fun xs M=>match xs with
 |[.d (.list ds)]=>if ds.length<2 then some (.d (.list ds),M)else none
 |[.c i]=>match M[i]? with
  |some (.lst ys)=>(hV ys).bind fun ds=>if ds.length<2 then some (.d (.list ds),M)else none
  |_=>none
 |_=>none
theorem WJ:PN K (MV K) AK:=by
 intro xs M z M' h W H vs Q G r k;unfold AK at h;split at h
 .rename_i ds;by_cases hs:ds.length<2
  .rw[A4 hs]at h;cases h;rcases r with _|⟨r1,_|_⟩;obtain⟨p,us,rfl,hq,hr⟩:=(show ∃a us,_=V.ref a/\SqL K W.F a us/\aK K W.F ds us from r1);refine⟨p,us,rfl,G.fh.seq hq,by rw[aK.len hr];exact hs,fun l hl=>?_⟩;obtain⟨e2,G2⟩:=G.lay (o:=.lst us) hl;exact k _ _ _ e2 G2 ⟨l,_,rfl,SqL.of aP,aK.same e2.ff _ _ hr⟩
  .rw[A5 hs]at h;cases h
 .rename_i i;split at h
  .rename_i ys hy;obtain⟨ds,h0,h⟩:=aG h;by_cases hs:ds.length<2
   .rw[A4 hs]at h;cases h;rcases r with _|⟨r1,_|_⟩;obtain⟨us,hv,hr⟩:=G.lstAt hy;have hr:=cX h0 hr;rw[r1.2];refine⟨_,us,rfl,SqL.of hv,by rw[aK.len hr];exact hs,fun l hl=>?_⟩;obtain⟨e2,G2⟩:=G.lay (o:=.lst us) hl;exact k _ _ _ e2 G2 ⟨l,_,rfl,SqL.of aP,aK.same e2.ff _ _ hr⟩
   .rw[A5 hs]at h;cases h
  .cases h
 .cases h
noncomputable def sX:FN:=fun xs M=>match AK xs M with
 |some r=>some r
 |none=>xR xs M
theorem aAG:PN K (XE K) sX:=by
 intro xs M z M' h W H vs Q G r k;unfold sX at h;split at h
 .rename_i q hq;cases h;exact .inr (WJ xs M z M' hq W H vs Q G r k)
 .exact .inl (RH xs M z M' h W H vs Q G r k)
theorem aBb{ι:Type}{X:ι->Cx}(hK:∀i,(X i).K=K)(hu:∀i,(X i).A.in1.in1.units+64<cLine):QN K X (.builtin "sorted") sX:=⟨_,fun i=>aGv (hK i) (hu i),aAG⟩
mutual
theorem GN:∀(x y:PyData),dQ x=true->dQ y=true->(PyData.eqv x y=true↔x=y)
 |.int a,.int b=>fun _ _=>by rw[PyData.eqv.eq_def];simp
 |.int a,.tuple b=>fun _ _=>by rw[PyData.eqv.eq_def];simp
 |.tuple a,.int b=>fun _ _=>by rw[PyData.eqv.eq_def];simp
 |.tuple xs,.tuple ys=>fun h k=>by
  unfold dQ at h k;rw[PyData.eqv.eq_def];have:=aDS xs ys h k;simpa using this
 |.none,_=>fun h _=>by unfold dQ at h;cases h
 |.bool _,_=>fun h _=>by unfold dQ at h;cases h
 |.str _,_=>fun h _=>by unfold dQ at h;cases h
 |.list _,_=>fun h _=>by unfold dQ at h;cases h
 |.dict _,_=>fun h _=>by unfold dQ at h;cases h
 |.int _,.none=>fun _ h=>by unfold dQ at h;cases h
 |.int _,.bool _=>fun _ h=>by unfold dQ at h;cases h
 |.int _,.str _=>fun _ h=>by unfold dQ at h;cases h
 |.int _,.list _=>fun _ h=>by unfold dQ at h;cases h
 |.int _,.dict _=>fun _ h=>by unfold dQ at h;cases h
 |.tuple _,.none=>fun _ h=>by unfold dQ at h;cases h
 |.tuple _,.bool _=>fun _ h=>by unfold dQ at h;cases h
 |.tuple _,.str _=>fun _ h=>by unfold dQ at h;cases h
 |.tuple _,.list _=>fun _ h=>by unfold dQ at h;cases h
 |.tuple _,.dict _=>fun _ h=>by unfold dQ at h;cases h
theorem aDS:∀(xs ys:List PyData),cJ xs=true->cJ ys=true->(PyData.eqvAll xs ys=true↔xs=ys)
 |[],[]=>fun _ _=>by rw[Z6];simp
 |[],_::_=>fun _ _=>by rw[Z6];simp
 |_::_,[]=>fun _ _=>by rw[Z6];simp
 |x::xs,y::ys=>fun h k=>by
  unfold cJ at h k;rw[B3]at h k;rw[Z6];show(PyData.eqv x y&&PyData.eqvAll xs ys)=true↔_;rw[B3,GN x y h.1 k.1,aDS xs ys h.2 k.2,List.cons.injEq]
end
theorem VF:∀a b:List Int,HT.lexLt a b=true->HT.lexLt b a=false
 |[],[]=>fun h=>by cases h
 |[],_::_=>fun _=>rfl
 |_::_,[]=>fun h=>by cases h
 |x::xs,y::ys=>fun h=>by
  rw[HT.lexLt_cons]at h ⊢;by_cases e:x=y
  .rw[A4 e]at h;rw[A4 e.symm];exact VF xs ys h
  .rw[A5 e]at h;rw[A5 (F0 e)];have:=C2 h;exact B8 (by omega)
theorem WO:∀a b c:List Int,HT.lexLt b a=false->HT.lexLt c b=false->HT.lexLt c a=false
 |[],_,[]=>fun _ _=>rfl
 |[],_,_::_=>fun _ _=>rfl
 |x::xs,[],_=>fun h _=>by cases h
 |x::xs,y::ys,[]=>fun _ h=>by cases h
 |x::xs,y::ys,z::zs=>fun h k=>by
  rw[HT.lexLt_cons]at h k ⊢;by_cases e:y=x
  .rw[A4 e]at h;by_cases e':z=y
   .rw[A4 e']at k;rw[A4 (e'.trans e)];exact WO xs ys zs h k
   .rw[A5 e']at k;subst e;rw[A5 e'];exact k
  .rw[A5 e]at h;have h:=E7 h;by_cases e':z=y
   .subst e';rw[A5 e];exact B8 h
   .rw[A5 e']at k;have k:=E7 k;rw[A5 (by omega)];exact B8 (by omega)
theorem YZ:∀a b:List Int,HT.lexLt a b=false->HT.lexLt b a=false->a=b
 |[],[]=>fun _ _=>rfl
 |[],_::_=>fun h _=>by cases h
 |_::_,[]=>fun _ h=>by cases h
 |x::xs,y::ys=>fun h k=>by
  rw[HT.lexLt_cons]at h k;by_cases e:x=y
  .rw[A4 e]at h;rw[A4 e.symm]at k;rw[e,YZ xs ys h k]
  .rw[A5 e]at h;rw[A5 (F0 e)]at k;have h:=E7 h;have k:=E7 k;omega
theorem TR:∀{xs ys:List PyData}{ns:List Int},jZ xs=some ns->jZ ys=some ns->xs=ys:=by
 have go:∀{xs:List PyData}{ns:List Int},jZ xs=some ns->xs=ns.map .int:=by
  intro xs
  induction xs with
  |nil=>intro ns h;cases h;rfl
  |cons d ds ih=>
   intro ns h;cases d with
   |int n=>
    have h:(jZ ds).bind (fun ns=>some (n::ns))=some ns:=h;obtain⟨ms,h1,h2⟩:=Option.bind_eq_some_iff.mp h;cases h2;rw[ih h1];rfl
   |_=>cases h
 intro xs ys ns h k;rw[go h,go k]
theorem qZ{x y:PyData}{c:Bool}(h:fO x y=some c):(∃a b,x=.int a/\y=.int b/\c=decide (a<b))\/∃xs ys ns ms,x=.tuple xs/\y=.tuple ys/\jZ xs=some ns/\jZ ys=some ms/\c=HT.lexLt ns ms:=by
 unfold fO at h;split at h
 .cases h;exact .inl ⟨_,_,rfl,rfl,rfl⟩
 .obtain⟨ns,h1,h⟩:=Option.bind_eq_some_iff.mp h;obtain⟨ms,h2,h⟩:=Option.bind_eq_some_iff.mp h;cases h;exact .inr ⟨_,_,_,_,rfl,rfl,h1,h2,rfl⟩
 .cases h
theorem JV{x y:PyData}{c:Bool}(h:fO x y=some c):∃d,fO y x=some d/\(c=true->d=false)/\(c=false->d=false->x=y):=by
 rcases qZ h with⟨a,b,rfl,rfl,rfl⟩|⟨xs,ys,ns,ms,rfl,rfl,h1,h2,rfl⟩
 .refine⟨decide (b<a),rfl,fun z=>B8 (by have:=C2 z;omega),fun z z'=>?_⟩;have z:=E7 z;have z':=E7 z';rw[show a=b by omega]
 .refine⟨HT.lexLt ms ns,?_,fun z=>VF _ _ z,fun z z'=>?_⟩
  .show(jZ ys).bind _=_;rw[h2];show(jZ xs).bind _=_;rw[h1];rfl
  .have:=YZ _ _ z z';subst this;rw[TR h1 h2]
theorem aCM{x y z:PyData}(h:fO y x=some false)(k:fO z y=some false):fO z x=some false:=by
 rcases qZ h with⟨a,b,rfl,rfl,hh⟩|⟨xs,ys,ns,ms,rfl,rfl,h1,h2,hh⟩
 .rcases qZ k with⟨c,d,rfl,e,kk⟩|⟨_,_,_,_,_,e,_⟩
  .cases e;have hh:=E7 hh.symm;have kk:=E7 kk.symm;show some (decide (c<b))=some false;rw[B8 (by omega)]
  .cases e
 .rcases qZ k with⟨c,d,rfl,e,kk⟩|⟨zs,ys',ns',ms',rfl,e,k1,k2,kk⟩
  .cases e
  .cases e;rw[h1]at k2;cases k2;have:=WO _ _ _ hh.symm kk.symm;show(jZ zs).bind _=_;rw[k1];show(jZ ys).bind _=_;rw[h2];show some _=some false;rw[this]
theorem UT:∀a b:List PyData,cJ a=true->cJ b=true->cQ a b=some true->cQ b a=some false
 |[],[]=>fun _ _ h=>by cases h
 |[],_::_=>fun _ _ _=>rfl
 |_::_,[]=>fun _ _ h=>by cases h
 |x::xs,y::ys=>fun p q h=>by
  unfold cJ at p q;rw[B3]at p q;have h:(if PyData.eqv x y=true then cQ xs ys else fO x y)=some true:=h;show(if PyData.eqv y x=true then cQ ys xs else fO y x)=some false;by_cases e:PyData.eqv x y=true
  .rw[A4 e]at h;have e':=(GN x y p.1 q.1).mp e;rw[A4 ((GN y x q.1 p.1).mpr e'.symm)];exact UT xs ys p.2 q.2 h
  .rw[A5 e]at h;rw[A5 fun z=>e ((GN x y p.1 q.1).mpr ((GN y x q.1 p.1).mp z).symm)];obtain⟨d,h1,h2,_⟩:=JV h;rw[h1,h2 rfl]
theorem aAI:∀a b c:List PyData,cJ a=true->cJ b=true->cJ c=true->cQ b a=some false->cQ c b=some false->cQ c a=some false
 |[],_,[]=>fun _ _ _ _ _=>rfl
 |[],_,_::_=>fun _ _ _ _ _=>rfl
 |x::xs,[],_=>fun _ _ _ h _=>by cases h
 |x::xs,y::ys,[]=>fun _ _ _ _ h=>by cases h
 |x::xs,y::ys,z::zs=>fun p q r h k=>by
  unfold cJ at p q r;rw[B3]at p q r;have hA:(if PyData.eqv y x=true then cQ ys xs else fO y x)=some false:=h;clear h;have kA:(if PyData.eqv z y=true then cQ zs ys else fO z y)=some false:=k;clear k;show(if PyData.eqv z x=true then cQ zs xs else fO z x)=some false;by_cases e:PyData.eqv y x=true
  .rw[A4 e]at hA;have e1:=(GN y x q.1 p.1).mp e;subst e1;by_cases e':PyData.eqv z y=true
   .rw[A4 e']at kA ⊢;exact aAI xs ys zs p.2 q.2 r.2 hA kA
   .rw[A5 e']at kA ⊢;exact kA
  .rw[A5 e]at hA;by_cases e':PyData.eqv z y=true
   .have e1:=(GN z y r.1 q.1).mp e';subst e1;rw[A5 e];exact hA
   .rw[A5 e']at kA
    have ez:¬PyData.eqv z x=true:=fun w=>by
     have w:=(GN z x r.1 p.1).mp w;subst w;obtain⟨d,h1,_,h3⟩:=JV hA;rw[h1]at kA;cases kA;exact e ((GN y z q.1 p.1).mpr (h3 rfl rfl))
    rw[A5 ez];exact aCM hA kA
theorem XW{rows:List (List PyData)}(h:sortable rows=true):uV (dX rows):=by
 obtain⟨a1,a2,a3,a4,a5⟩:=iM h
 have onl:∀i,cJ (rows.getD i [])=true:=fun i=>by
  rw[C0];cases e:rows[i]? with
  |none=>rfl
  |some r=>exact(a3 r (List.mem_of_getElem? e)).2
 have out:∀i,¬i<rows.length->rows.getD i []=[]:=fun i hi=>by
  rw[C0,List.getElem?_eq_none (by omega)];rfl
 have ans:∀i j,∃c,cQ (rows.getD i []) (rows.getD j [])=some c:=fun i j=>by
  by_cases hi:i<rows.length
  .by_cases hj:j<rows.length
   .exact Option.isSome_iff_exists.mp (a5 i j hi hj)
   .rw[out j hj];cases rows.getD i []with
    |nil=>exact⟨_,rfl⟩
    |cons _ _=>exact⟨_,rfl⟩
  .rw[out i hi];exact⟨_,rfl⟩
 have is:∀i j c,dX rows i j=c->cQ (rows.getD i []) (rows.getD j [])=some c:=fun i j c e=>by
  obtain⟨d,hd⟩:=ans i j;unfold dX at e;rw[hd]at e ⊢;exact O6 some e
 have un:∀i j c,cQ (rows.getD i []) (rows.getD j [])=some c->dX rows i j=c:=fun i j c e=>by
  unfold dX;rw[e];rfl
 exact⟨fun a b e=>un _ _ _ (UT _ _ (onl a) (onl b) (is _ _ _ e)),fun a b c e e'=>un _ _ _ (aAI _ _ _ (onl a) (onl b) (onl c) (is _ _ _ e) (is _ _ _ e'))⟩
theorem CT{rows:List (List PyData)}(h:sortable rows=true):gU (dX rows) (RN (dX rows) (PySem.W.kas_sort rows.length)) rows.length:=
 (KS.run (aBM (XW h) (by have:=(iM h).1;omega))).2
noncomputable def TrS(h B:Heap)(e:Addr)(vs:Array Value):Option Value->Prop
 |none=>vs[1]?=some .none
 |some fl=>∃T oT ts,vs[1]?=some (.ref T)/\B.get? T=none/\T≠e/\h.get? T=some oT/\oT.data=.fields ts/\ts[3]?=some fl
noncomputable def Tr(h B:Heap)(e:Addr)(c:Value)(dx:Option Addr)(st:Option Value):Prop:=
 ∃oe vs,h.get? e=some oe/\(oe.cls=c/\oe.dict=dx)/\oe.data=.fields vs/\1<vs.size/\TrS h B e vs st
structure Fly(B:Heap)(l:List Env)(e:Addr)(c:Value)(dx:Option Addr)(st:Option Value)(h:Heap):Prop where
 stays:B.StaysIn h
 new:B.get? e=none
 frames:h.FunFrames B l
 tr:Tr h B e c dx st
theorem Fly.obj{B h:Heap}{l:List Env}{e:Addr}{c:Value}{dx:Option Addr}{st:Option Value}(F:Fly B l e c dx st h):∃oe vs,h.get? e=some oe/\oe.cls=c/\oe.dict=dx/\oe.data=.fields vs:=by
 obtain⟨oe,vs,h1,h2,h3,_⟩:=F.tr;exact⟨oe,vs,h1,h2.1,h2.2,h3⟩
theorem aCp(o:Obj)(f:Array Value->Array Value):(o.mapFields f).dict=o.dict:=by
 obtain⟨c,d,dt,sl⟩:=o;cases dt<;>rfl
section
variable{M:Model}{A:Around}{E:Value->Shared->Prop}{s:Shared}{B:Heap}{env:Env}{outer l:List Env}{L e:Addr}{c:Value}{dx:Option Addr}{st:Option Value}{Q:Unit->Shared->Prop}
theorem jU{h:Heap}{a b:Addr}{o oa:Obj}{vs:Array Value}(ha:h.get? a=some oa)(hd:oa.data=.fields vs)(hb:h.get? b=some o)(hn:∀ws,o.data≠.fields ws):b≠a:=fun q=>by
 subst q;rw[ha]at hb;cases hb;exact hn vs hd
theorem JR{oe:Obj}{vs:Array Value}{hd:Value}{nx:Bool}(hfr:A.frames=some (env::outer))(hf:env.frame=some L)(stays:B.StaysIn s.heap)(new:B.get? e=none)(fr:s.heap.FunFrames B (env::outer))
 (he:s.heap.get? e=some oe) (hk:oe.cls=c/\oe.dict=dx) (hv:oe.data=.fields vs) (hz:1<vs.size)
 (q:∀h',Fly B (env::outer) e c dx (some (rawInt L)) h'->s.heap.UpToSlots h'->Q () { s with heap:=h' }):
 wpAny M A (do let a <- frameOf env;let pl <- entryPlaceOf L nx;let b <- EntryCells.newEntry hd a .none (rawInt L) .none pl;setField (.ref e) 1 b) Q E s:=by
 have notF:e∉(env::outer).filterMap (·.frame):=fun hm=>by
  obtain⟨_,o,ho,hnf⟩:=fr.mem hm;exact jU he hv ho hnf rfl
 refine A0 (wpAny_frameOf_fun hfr fr hf fun g1 so=>A0 (wpAny_entryPlaceOf fun pl hpl=>?_));unfold EntryCells.newEntry newFields;refine A0 (C9 ?_ (hpl.sizeOk5 _ _ _ _ _));generalize hnw:({ cls:=.type "traceback",dict:=none,data:=.fields ([hd,Value.ref L,.none,rawInt L,.none]++(if pl.isEmpty then List.replicate 6 Value.none else pl)).toArray }:Obj)=nw;have nwd:nw.data=.fields ([hd,Value.ref L,.none,rawInt L,.none]++(if pl.isEmpty then List.replicate 6 Value.none else pl)).toArray:=by rw[<- hnw]
 have e1:g1.get? e=some oe:=(so.2.1 e notF).trans he;have st1:B.StaysIn g1:=fun b o hb=>(so.2.1 b fun hm=>by rw[(fr.mem hm).1]at hb;cases hb).trans (stays b o hb);have e2:(g1.push nw).get? e=some oe:=A2 nw e1;refine O3 e2 hv hz (q _ ?_ ?_)
 all_goals
  have nTe:g1.objs.size≠e:=F9 (A8 e1);have e3:=E9 (Obj.mapFields (·.setIfInBounds 1 (Value.ref g1.objs.size))) e2 (Y8 (J5 hv _))
  have kp:∀b o,b≠e->g1.get? b=some o->((g1.push nw).update e (Obj.mapFields (·.setIfInBounds 1 (Value.ref g1.objs.size)))).get? b=some o:=fun b o hbe hb=>by
   rw[D9 _ _ (F0 hbe)];exact A2 _ hb
 .refine⟨fun b o hb=>kp b o (fun z=>by rw[z,new]at hb;cases hb) (st1 b o hb),new,fr.of_keeps fun b o hb hnf=>?_,?_⟩
  .obtain⟨sl,hs⟩:=so.2.2 b o hb;exact⟨_,kp b _ (jU he hv hb hnf) hs,rfl⟩
  .refine⟨_,_,e3,⟨(Obj.cls_mapFields _ _).trans hk.1,(aCp _ _).trans hk.2⟩,J5 hv _,by simpa using hz,g1.objs.size,nw,_,by simp[hz],st1.fresh,nTe,?_,nwd,by simp⟩;rw[D9 _ _ (F0 nTe)];exact B0 g1 (by rw[<- hnw];rfl)
 .intro b o hb hnf;obtain⟨sl,hs⟩:=so.2.2 b o hb;exact⟨sl,kp b _ (jU he hv hb hnf) hs⟩
theorem GH(hfr:A.frames=some (env::outer))(hf:env.frame=some L)(F:Fly B (env::outer) e c dx st s.heap)(hst:st=none\/st=some .none\/st=some (rawInt L))
 (q:∀h',Fly B (env::outer) e c dx (some (rawInt L)) h'->s.heap.UpToSlots h'->Q () { s with heap:=h' }):wpAny M A (noteFrame (.ref e) env) Q E s:=by
 obtain⟨oe,vs,he,hk,hv,hz,ht⟩:=id F.tr;unfold noteFrame;simp only[hf];rcases hst with rfl|rfl|rfl
 .refine A0 (E5 he hv (show vs[1]?=some .none from ht) ?_);rw[A5 (by decide)];exact JR hfr hf F.stays F.new F.frames he hk hv hz q
 .obtain⟨T,oT,ts,t1,t2,t3,t4,t5,t6⟩:=ht;refine A0 (E5 he hv t1 ?_);rw[A4 (show(Value.ref T != Value.none)=true from by simp)];refine A0 (E5 t4 t5 t6 ?_);rw[A5 (show ¬((Value.none==rawInt L)=true)from by simp[rawInt])];refine A0 (O3 t4 t5 (Array.getElem?_eq_some_iff.mp t6).1 ?_);have oth:∀b,b≠T->(s.heap.update T (Obj.mapFields (·.setIfInBounds 3 Value.none))).get? b=s.heap.get? b:=fun b hb=>D9 _ _ (F0 hb)
  refine JR (s:={ s with heap:=s.heap.update T (Obj.mapFields (·.setIfInBounds 3 Value.none)) }) hfr hf (fun b o hb=>(oth b fun z=>by rw[z,t2]at hb;cases hb).trans (F.stays b o hb)) F.new
   (F.frames.of_keeps fun b o hb hnf=>⟨o,(oth b (jU t4 t5 hb hnf)).trans hb,rfl⟩) ((oth e (F0 t3)).trans he) hk hv hz fun h' F' u=>q h' F' fun b o hb hnf=>u b o ((oth b (jU t4 t5 hb hnf)).trans hb) hnf
 .obtain⟨T,oT,ts,t1,t2,t3,t4,t5,t6⟩:=ht;refine A0 (E5 he hv t1 ?_);rw[A4 (show(Value.ref T != Value.none)=true from by simp)];refine A0 (E5 t4 t5 t6 ?_);rw[A4 (show(rawInt L==rawInt L)=true from by simp)];exact A3 (q _ F (.refl _))
theorem xQ{fl:Value}{fo:Option Addr}(F:Fly B l e c dx (some fl) s.heap)
 (q:∀h',Fly B l e c dx (some (fo.elim .none fun f=>rawInt f)) h'->s.heap.UpToSlots h'->Q () { s with heap:=h' }):wpAny M A (setFlight (.ref e) fo) Q E s:=by
 obtain⟨oe,vs,he,hk,hv,hz,T,oT,ts,t1,t2,t3,t4,t5,t6⟩:=id F.tr;have z3:3<ts.size:=(Array.getElem?_eq_some_iff.mp t6).1;unfold setFlight;refine A0 (E5 he hv t1 ?_);rw[A4 (show(Value.ref T != Value.none)=true from by simp)];have oth:∀b,b≠T->(s.heap.update T (Obj.mapFields (·.setIfInBounds 3 (fo.elim .none fun f=>rawInt f)))).get? b=s.heap.get? b:=fun b hb=>D9 _ _ (F0 hb)
 refine O3 t4 t5 z3 (q _ ⟨fun b o hb=>(oth b fun z=>by rw[z,t2]at hb;cases hb).trans (F.stays b o hb),F.new,F.frames.of_keeps fun b o hb hnf=>⟨o,(oth b (jU t4 t5 hb hnf)).trans hb,rfl⟩,
  oe,vs,(oth e (F0 t3)).trans he,hk,hv,hz,T,_,_,t1,t2,t3,E9 _ t4 (Y8 (J5 t5 _)),J5 t5 _,by simp[z3]⟩
  fun b o hb hnf=>⟨o.slots,(oth b (jU t4 t5 hb hnf)).trans hb⟩)
theorem VN(hfr:A.frames=some (env::outer))(hf:env.frame=some L)(F:Fly B (env::outer) e c dx st s.heap)(hst:st=none\/st=some .none\/st=some (rawInt L))
 (q:∀h',Fly B outer e c dx (some .none) h'->s.heap.UpToSlots h'->Q () { s with heap:=h' }):wpAny M A (leaving env (.ref e)) Q E s:=by
 unfold leaving;refine A0 (GH hfr hf F hst fun h1 F1 u1=>xQ (fo:=none) F1 fun h2 F2 u2=>?_);obtain⟨a,b,⟨_,_,c'⟩,d⟩:=F2;exact q h2 ⟨a,b,c',d⟩ (u1.trans u2)
theorem aCQ{X:Value->Shared->Prop}(hfr:A.frames=some (env::outer))(hf:env.frame=some L)(F:Fly B (env::outer) e c dx st s.heap)(hst:st=none\/st=some .none\/st=some (rawInt L))
 (q:∀h',Fly B (env::outer) e c dx (some (rawInt L)) h'->s.heap.UpToSlots h'->X (.ref e) { s with heap:=h' }):notedBy M A env (cameBackBy M A env X) (.ref e) s:=by
 unfold notedBy;refine GH hfr hf F hst fun h1 F1 u1=>?_;unfold cameBackBy;obtain⟨oe,vs,he,hk,hv,hz,T,oT,ts,t1,t2,t3,t4,t5,t6⟩:=id F1.tr;refine A0 (E5 he hv t1 ?_);rw[A5 (show ¬((Value.ref T==Value.none)=true)from by simp),hf];exact xQ (s:={ s with heap:=h1 }) (fo:=some L) F1 fun h2 F2 u2=>q h2 F2 (u1.trans u2)
end
structure Body(X:Cx):Prop where
 stk:X.stack=X.env::X.outer
 fr:X.env.frame=some X.env.locals
 ex:X.ex=[]
structure Kp(X:Cx)(H:Hp)(B h:Heap):Prop where
 trk:∀b u o,H b=some u->h.get? b=some o->B.get? b=some o
 ent:∀b o,X.s₀.heap.get? b=some o->b∉X.fs->(∃o',B.get? b=some o')/\(X.H₀ b=none->B.get? b=some o)
 pin:∀p∈X.pn,B.get? p.1=some p.2
section
variable{X:Cx}{pins:List (Addr×Obj)}{σ:St}{H:Hp}{s:Shared}{B h':Heap}
theorem Inv.up(I:Inv X [] σ H s)(b:Body X)(k:Kp X H B s.heap)(stays:B.StaysIn h')(u:s.heap.UpToSlots h'):Inv X [] σ H { s with heap:=h' }/\Kp X H B h':=by
 have tr:∀a v o,H a=some v->s.heap.get? a=some o->h'.get? a=some o:=fun a v o e q=>stays a o (k.trk a v o e q)
 have cell:∀c v,s.heap.IsCell c v->h'.IsCell c v:=fun c v ⟨o,ho,hd⟩=>by
  obtain⟨sl,q⟩:=u c o ho fun vs z=>by rw[hd]at z;cases z
  exact⟨_,q,hd⟩
 have frm:∀a∈X.fs,∀o,s.heap.get? a=some o->∃sl,h'.get? a=some { o with slots:=sl }:=fun a ha o e=>by
  obtain⟨_,o1,h1,hn⟩:=I.funs.mem ha;rw[e]at h1;cases h1;exact u a o e hn
 refine⟨⟨I.ok,I.os,I.bare,⟨fun a o e n ha hx=>?_,fun a o e n ha hx=>?_,I.base.free,fun a o e hx=>?_,I.base.tups,I.base.frzs,I.base.tbls⟩,?_,fun x c e=>?_,I.free,I.freeC,fun p hp=>?_,fun a v e=>?_,I.len⟩,⟨fun a v o e q=>?_,k.ent,k.pin⟩⟩
 .exact stays a o ((k.ent a o e ha).2 n)
 .obtain⟨sl,e1⟩:=I.base.slot a o e n ha hx;obtain⟨sl',e2⟩:=frm a ha _ e1;exact⟨sl',e2⟩
 .by_cases ha:a∈X.fs
  .obtain⟨o1,e1⟩:=I.base.there a o e hx;obtain⟨sl,e2⟩:=frm a ha o1 e1;exact⟨_,e2⟩
  .obtain⟨⟨o',q⟩,_⟩:=k.ent a o e ha;exact⟨o',stays a o' q⟩
 .obtain⟨m,hn,hl⟩:=I.loc;refine⟨m,u.ns hn,fun i x v e1 e2 e3=>?_⟩;obtain⟨uu,r,l⟩:=hl i x v e1 e2 e3;refine⟨uu,r,?_⟩;rcases l with l|⟨kk,c,e,z⟩
  .exact .inl l
  .exact .inr ⟨kk,c,e,cell c _ z⟩
 .obtain⟨v,z⟩:=I.cell x c e;exact⟨v,cell c v z⟩
 .rw[C6]at hp;obtain⟨_,n,ne,nf,d⟩:=I.pin p (E6 _ hp);exact⟨stays _ _ (k.pin p hp),n,ne,nf,d⟩
 .exact(I.hok a v e).stay (fun c w hc q=>by
   rcases hc with rfl|hc
   .exact tr c v w e q
   .exact tr c _ w hc q) (fun _ q=>q) fun _ _ q=>q
 .obtain⟨o1,q1⟩:=(I.hok a v e).there;have:=tr a v o1 e q1;rw[q]at this;cases this;exact k.trk a v o e q1
noncomputable def XS(X:Cx)(EE:St->XK)(ev:Value)(s:Shared):Prop:=
 ∃e c dx st σ H B,ev=.ref e/\Inv X [] σ H s/\Kp X H B s.heap/\Fly B X.stack e c dx st s.heap/\(st=none\/st=some .none\/st=some (rawInt X.env.locals))/\EE σ c dx H
theorem XS.unwish{EE:St->XK}{E:Value->Shared->Prop}{ev:Value}(h:XS (X.wish E) EE ev s):XS X EE ev s:=by
 obtain⟨e,c,dx,st,σ,H,B,h1,I,k,F,hst,q⟩:=h;exact⟨e,c,dx,st,σ,H,B,h1,I.unwish,⟨k.trk,k.ent,k.pin⟩,F,hst,q⟩
noncomputable def CX1(P:Program)(w:World):CXT:=fun outer H s E ev s'=>∃e c dx H' B,ev=.ref e/\s'.os=s.os/\AllBare s'.gens/\Un (frs outer) [] H H' s.heap s'.heap/\HOk P w H' s'.heap/\Fly B outer e c dx (some .none) s'.heap /\
 (∀b u o,H' b=some u->s'.heap.get? b=some o->B.get? b=some o)/\(∀b o,s.heap.get? b=some o->b∉frs outer->(∃o',B.get? b=some o')/\(H b=none->B.get? b=some o))/\E c dx H'
theorem Inv.entry(I:Inv X pins σ H s)(bd:Body X){b:Addr}{o:Obj}(e:X.s₀.heap.get? b=some o)(hb:b∉X.fs):b∉frs X.stack/\(∃o1,s.heap.get? b=some o1)/\(X.H₀ b=none->s.heap.get? b=some o/\H b=none):=by
 have nx:b∉X.ex:=by rw[bd.ex];simp
 refine⟨fun z=>?_,I.base.there b o e nx,fun n=>⟨I.base.keep b o e n hb nx,I.base.free b o e n nx⟩⟩;rcases List.mem_cons.mp (I.stkSub b z)with q|q
 .exact absurd (q▸B7 (A8 e) I.ok.above) (F8 _)
 .exact hb q
theorem XY{EE:St->XK}{ev:Value}{s':Shared}(bd:Body X)(I:Inv X pins σ H s)(h:CX1 X.prog X.w X.stack H s (EE σ) ev s'):XS X EE ev s':=by
 obtain⟨e,c,dx,H',B,rfl,os,bare,un,hok,F,trk,ent,q⟩:=h;have I':Inv X pins σ H' s':=I.call' os un hok bare fun b z=>absurd z (by simp);refine⟨e,c,dx,some .none,σ,H',B,rfl,I'.pins_of fun p hp=>absurd hp (by simp),⟨trk,fun b o e hb=>?_,fun p hp=>?_⟩,F,.inr (.inl rfl),q⟩
 .obtain⟨h1,⟨o1,h2⟩,h3⟩:=I.entry bd e hb;exact⟨(ent b o1 h2 h1).1,fun n=>(ent b o (h3 n).1 h1).2 (h3 n).2⟩
 .obtain⟨h1,n,ne,nf,_⟩:=I.pin p (E6 _ hp);exact(ent p.1 p.2 h1 fun z=>(List.mem_cons.mp (I.stkSub p.1 z)).elim ne nf).2 n
theorem VE{EE:St->XK}{e:Addr}{oe:Obj}{vs:Array Value}(bd:Body X)(I:Inv X pins σ H s)(he:s.heap.get? e=some oe)(hn:H e=none)(h0:X.s₀.heap.get? e=none)(hp:∀p∈X.pn,p.1≠e)(hv:oe.data=.fields vs)(hz:1<vs.size)(h1:vs[1]?=some .none)
 (q:EE σ oe.cls oe.dict H):XS X EE (.ref e) s:=by
 have nf:e∉frs X.stack:=fun hm=>by
  obtain⟨_,o,ho,hnf⟩:=I.stack.mem hm;exact jU he hv ho hnf rfl
 have get:∀b o,b≠e->b∉frs X.stack->s.heap.get? b=some o->(PySem.W.hideAll s.heap (e::frs X.stack)).get? b=some o:=fun b o h1 h2 h3=>PySem.W.hideAll_get _ h3 fun hm=>(List.mem_cons.mp hm).elim h1 h2;refine⟨e,oe.cls,oe.dict,none,σ,H,PySem.W.hideAll s.heap (e::frs X.stack),rfl,I.pins_of fun p hp=>absurd hp (by simp),⟨fun b u o h1 h2=>?_,fun b o h1 h2=>?_,fun p h1=>?_⟩,⟨fun b o h1=>PySem.W.of_hideAll _ h1,PySem.W.hideAll_none _ B5,?_,oe,vs,he,⟨rfl,rfl⟩,hv,hz,h1⟩,.inl rfl,q⟩
 .exact get b o (aO h1 hn) (fun z=>by rw[I.stkFree b z]at h1;cases h1) h2
 .obtain⟨k1,⟨o1,k2⟩,k3⟩:=I.entry bd h1 h2;have ne:b≠e:=fun z=>by rw[z,h0]at h1;cases h1
  exact⟨⟨o1,get b o1 ne k1 k2⟩,fun n=>get b o ne k1 (k3 n).1⟩
 .obtain⟨q1,n,ne,nf,_⟩:=I.pin p (E6 _ h1);exact get p.1 p.2 (hp p h1) (fun z=>(List.mem_cons.mp (I.stkSub p.1 z)).elim ne nf) q1
 .exact PySem.W.funFrames_hide I.stack fun env hm a ha=>B4 _ (List.mem_filterMap.mpr ⟨env,hm,ha⟩)
theorem VR{EE:St->XK}(bd:Body X):PassesOwn (model X.prog X.w) X.A X.env (XS X EE):=by
 rintro ev s ⟨e,c,dx,st,σ,H,B,rfl,I,k,F,hst,q⟩;have hf:=I.ok.frames;rw[bd.stk]at hf F;refine aCQ hf bd.fr F hst fun h' F' u=>?_;obtain⟨I',k'⟩:=I.up bd k F'.stays u;exact⟨e,c,dx,_,σ,H,B,rfl,I',k',by rw[bd.stk];exact F',.inr (.inr rfl),q⟩
end
section
variable{P:Program}{w:World}{K:Fg}{mg:Str->Option Value}{base:Heap}{N:List Str}{qual:Str}{scope:Scope}{f:Addr}{cd:Value}{A:Around}{outer:List Env}{s:Shared}{H:Hp}{E:XK}{CX:CXT}
theorem NZ:Body (kR CX P w K mg base N qual scope f cd A outer s H E):=⟨rfl,rfl,rfl⟩
theorem Body.wish{X:Cx}(b:Body X)(E:Value->Shared->Prop):Body (X.wish E):=⟨b.stk,b.fr,b.ex⟩
theorem YB{ev:Value}{s':Shared}(h:XS (kR (CX1 P w) P w K mg base N qual scope f cd A outer s H E) (fun _=>E) ev s'):(kR (CX1 P w) P w K mg base N qual scope f cd A outer s H E).xe ev s':=by
 obtain⟨e,c,dx,st,σ,H',B,rfl,I,k,F,hst,q⟩:=h;refine VN (c:=c) (dx:=dx) (st:=st) (B:=B) (outer:=outer) (L:=s.heap.objs.size) I.ok.frames rfl F hst fun h' F' u=>?_;obtain⟨I',k'⟩:=I.up NZ k F'.stays u;exact⟨e,c,dx,H',B,rfl,I'.os,I'.bare,I'.base,I'.hok,F',k'.trk,k'.ent,q⟩
theorem aFD{k:Nat}{name:Str}{params:Arguments}{body:List Stmt}{dV kV doc pm cdv ct oc:Value}{an od:Option Addr}
 {osl:Array (Option Value)} {ps:List Str} {sp:Sp} (lk:K.lookup f=some ⟨oc,od,.func (PySem.W.fnOf name qual params body scope dV kV doc pm an cdv ct),osl⟩) (hcd:PySem.W.codeIn K cdv qual=true) (S:aS N ps scope)
 (len:∀vs H Q E,sp vs H Q E->vs.length=ps.length)
 (hbody:∀(A:Around)(outer:List Env)(s:Shared)(H:Hp)(vs:List V)(Q:VK)(E:XK),bS k (A.deeper (envOfC qual scope s.heap.objs.size f cdv))->sp vs H Q E->
  ∃t,PSs ((kR (CX1 P w) P w K mg base N qual scope f cdv A outer s H E).wish (XS (kR (CX1 P w) P w K mg base N qual scope f cdv A outer s H E) fun _=>E)) body t/\t { nx:=fun _ H'=>Q .non H',rt:=Q } (start N vs) H):
 gP P w K mg base (CX1 P w) (k+1) f (PySem.W.fnOf name qual params body scope dV kV doc pm an cdv ct) ps sp:=
 aDn lk hcd S len fun A outer s H vs Q E hr h=>by
  obtain⟨t,ht,hq⟩:=hbody A outer s H vs Q E hr h;exact⟨t,fun pins s' σ H' D I hw=>D0 (ht pins s' σ H' D (I.wish _) hw) (fun _ _ q=>q.unwish) fun _ _ z=>YB z,hq⟩
end
structure US(K:Fg)(C:Addr):Prop where
 ga:PySem.W.findIn K (.ref C) "__getattribute__"=some (some (.builtin "BaseException.__getattribute__"))
 gh:PySem.W.findIn K (.ref C) "__getattr__"=some none
 be:PySem.W.subIn K (.ref C) (.type "BaseException")=some true
 cl:(PySem.W.clsIn K C).isSome=true
section
variable{prog:Program}{w:World}{A:Around}{E:Value->Shared->Prop}{s:Shared}{K:Fg}{x C:Addr}{ox:Obj}{od:Option Obj}{name:Str}
theorem FQ{tk:Tok}{Q:Value->Shared->Prop}(X:K.In s.heap)(I:PySem.W.InstAt s.heap x ox C od)(c:US K C)
 (h:wpAny (model prog w) A.in1 (Builtin.«object.__getattribute__» ⟨[.ref x,.str name tk],[]⟩)
  (fun fin s'=>match fin with|.done (.ret v)=>Q v s'|.done _=>False|.again c'=>c'.quiet=true/\codeAny (model prog w) A c' (fun r s'=>match r with|.ok (.ret v)=>Q v s'|.ok _=>False|.error e=>E e s') s') E s):
 wpAny (model prog w) A (call (.builtin "BaseException.__getattribute__") [.ref x,.str name tk]) Q E s:=by
 have hb:=F.entry_bexc_ga;generalize Builtin.«object.__getattribute__»=b at hb h;refine A0b (codeAny_call_builtin F.excAttr_ValueError.ga.plain hb ?_);have hk:builtinKind "BaseException.__getattribute__"=some .slot:=by decide +kernel
 have hsplit:splitId "BaseException.__getattribute__"=some ("BaseException","__getattribute__"):=by decide +kernel
 have ha:=F.args_bexc_ga (.ref x) (.str name tk);have L0:=I.type (M:=model prog w);have L1:=PySem.W.looks_subIn (M:=model prog w) X c.be;obtain⟨hh,g,d,t,os⟩:=s;simp only[checkBuiltinCall,hk,hsplit];refine A0 ?_;unfold isInstance;refine A0 (L0.at (L1.at ?_))
 repeat (first|assumption|wp_step)
 refine D0 h (fun fin s' z=>?_) fun _ _ z=>z;rcases fin with(_|_|_|_)|c'
 .exact z
 .exact z
 .exact z
 .exact z
 .exact⟨z.1,U1 z.2 fun r s' q=>by cases r with
   |error e=>exact q
   |ok f=>cases f<;>exact q⟩
theorem SC{tk:Tok}{fill ex:Bool}{Q:Value->Shared->Prop}(X:K.In s.heap)(I:PySem.W.InstAt s.heap x ox C od)(c:US K C)
 (h:wpAny (model prog w) A.in1 (Builtin.«object.__getattribute__» ⟨[.ref x,.str name tk],[]⟩)
  (fun fin s'=>match fin with|.done (.ret v)=>wpAny (model prog w) A (handedOut v) Q E s'|.done _=>False|.again c'=>c'.quiet=true/\codeAny (model prog w) A c' (fun r s'=>match r with|.ok (.ret v)=>wpAny (model prog w) A (handedOut v) Q E s'|_=>False) s') (fun _ _=>False) s):
 wpAny (model prog w) A (getAttrBy (.ref x) (.str name tk) fill ex) Q E s:=by
 have L0:=I.type (M:=model prog w);have L1:=O8 (M:=model prog w) X c.ga;have L2:=O8 (M:=model prog w) X c.gh;unfold getAttrBy;refine D4 (A0 (L0.here (A0 (L1.here ?_))));have hx2:(Value.builtin "BaseException.__getattribute__"==Value.builtin "object.__getattribute__")=false:=by decide +kernel
 have hx1:(onTheHeap (Value.ref C)&&Value.builtin "BaseException.__getattribute__"==Value.builtin "object.__getattribute__")=false:=by rw[hx2];rfl
 dsimp only;rw[hx1,A5 A6];unfold getAttrByItsOwn hookBefore;rw[A4 (show onTheHeap (Value.ref C)=true from rfl)];refine A0 (L2.here (A0 (wpAny_attempt (D4 ?_))));unfold callGetattribute;rw[A5 (show ¬((ex&&onTheHeap (Value.builtin "BaseException.__getattribute__"))=true)from by cases ex<;>exact A6)];unfold boundAndCalled;rw[F.excAttr_ValueError.ga.bind (.ref x)];refine A0 (A3 ?_);refine D0 (FQ (tk:=tk) (name:=name) (E:=fun _ _=>False) (Q:=fun v s'=>wpAny (model prog w) A (handedOut v) Q E s') X I c ?_) (fun v s' z=>z) fun _ _ z=>z.elim;refine D0 h (fun fin s' z=>?_) fun _ _ z=>z;rcases fin with(_|_|_|_)|c'
 .exact z
 .exact z
 .exact z
 .exact z
 .exact⟨z.1,U1 z.2 fun r s' q=>by cases r with
   |error e=>exact q
   |ok f=>cases f<;>exact q⟩
theorem TH{Q:Option Value->Shared->Prop}(X:K.In s.heap)(I:PySem.W.InstAt s.heap x ox C od)(c:US K C)(ha:PySem.W.findIn K (.ref C) "__class__"=some (some (.builtin "object.__class__")))
 (hn:PySem.W.specialIn K (.builtin "object.__class__") "__get__"=some (some (.builtin "getset_descriptor.__get__"))) (htk:PySem.W.takesIn K (.builtin "object.__class__")=some true) (hm:PySem.W.mroIn K C (.type "object")=some true)
 (h:Q (some (.ref C)) { s with toks:=s.toks+1 }):wpAny (model prog w) A (getAttr? (.ref x) "__class__") Q E s:=by
 have hf:PySem.W.findObj K C od "__class__"=some (.bind (.builtin "getset_descriptor.__get__") (.builtin "object.__class__")):=by
  obtain⟨cd,hc⟩:=Option.isSome_iff_exists.mp c.cl;unfold PySem.W.findObj;rw[hc,A1,ha,A1];simp[hn,htk]
 unfold getAttr? getAttrBy?;refine A0 (wpAny_mkText (A0 (wpAny_attempt (SC (s:={ s with toks:=s.toks+1 }) X I c ?_))));obtain⟨h0,g,d,t,os⟩:=s;have L0:=I.type (M:=model prog w);have L1:=PySem.W.looks_find (M:=model prog w) X I hf;refine A0 (A3 (A0 (A3 (A0 (L0.at (A0 (L1.at ?_)))))));show wpAny _ _ (Builtin.ObjectAttr.bindTo (.builtin "getset_descriptor.__get__") (.builtin "object.__class__") (.ref x) (.ref C)) _ _ _;unfold Builtin.ObjectAttr.bindTo;refine A0 (D4 (A0b (PySem.W.class_get (ox:=ox) (od:=od) X I hm ?_)));refine A3 ?_;show wpAny _ _ (handedOut (.ref C)) _ _ _;exact A3 (A3 h)
theorem YD(c:US K C)(ha:PySem.W.findIn K (.ref C) "__class__"=some (some (.builtin "object.__class__")))
 (hn:PySem.W.specialIn K (.builtin "object.__class__") "__get__"=some (some (.builtin "getset_descriptor.__get__"))) (htk:PySem.W.takesIn K (.builtin "object.__class__")=some true) (hm:PySem.W.mroIn K C (.type "object")=some true):
 PySem.W.KitX K (.ref x) (.ref C) (fun h=>∃ox od,PySem.W.InstAt h x ox C od) where
 ty:=fun _ _ _ ⟨_,_,I⟩=>I.type
 it:=fun _ _ X _=>by
  have hc:=c.cl;unfold PySem.W.clsIn at hc;split at hc
  .rename_i c' d' cd' sl' ho;intro A' Q' E' s' k q;unfold isType loadHead;exact A0 (wpAny_loadPart (k _ _ (X _ _ ho)) (A3 q))
  .cases hc
 ne:=fun h tp dd its n sl X htp=>by
  have hc:=c.cl;refine Bool.eq_false_iff.mpr fun q=>?_;have e:C=tp:=Value.ref.inj (beq_iff_eq.mp q);subst e;unfold PySem.W.clsIn at hc;split at hc
  .rename_i c' d' cd' sl' ho;have z:=(X _ _ ho).symm.trans htp;cases z
  .cases hc
 ca:=fun X ⟨_,_,I⟩ k=>TH X I c ha hn htk hm k
end
section
variable{X:Cx}{pins:List (Addr×Obj)}{σ:St}{H:Hp}{s:Shared}
noncomputable def GC(sp:Sp)(EE:St->XK)(t:TA):TE:=fun σ H Q=>t σ H fun vs H1=>sp vs H1 Q (EE σ)
structure jC(P:Program)(w:World)(K:Fg)(mg:Str->Option Value)(base:Heap)(k:Nat)(x:Str)(ps:List Str)(sp:Sp):Prop where
 ex:∃f fd,gP P w K mg base (CX1 P w) k f fd ps sp/\mg x=some (.ref f)/\PySem.W.keepIn K (.ref f)=true/\Binds K fd ps []
structure XOk(X:Cx)(EE:St->XK):Prop where
 bd:Body X
 pass:∀ev s,XS X EE ev s->X.xe ev s
 own:PassesOwn (model X.prog X.w) X.A X.env X.xe
theorem XOk.of{X:Cx}(bd:Body X)(EE:St->XK):XOk (X.wish (XS X EE)) EE:=⟨bd.wish _,fun _ _ h=>h.unwish,VR bd⟩
theorem aCK{EE:St->XK}{k:Nat}{f:Addr}{fd:FuncData}{ps:List Str}{sp:Sp}{Q:VK}{us:List Value}{vs:List V}(ok:XOk X EE)(F:gP X.prog X.w X.K X.mg X.base (CX1 X.prog X.w) k f fd ps sp)(hr:bS k X.A)(hb:Binds X.K fd ps [])
 (I:Inv X pins σ H s) (r:bC vs us) (h:sp vs H Q (EE σ)):wpAny (model X.prog X.w) X.A (call (.ref f) us) (EP X pins σ Q) X.xe s:=by
 have hl:us.length=ps.length:=by rw[<- r.length];exact F.len _ _ _ _ h
 have b:=hb s us I.kIn (by rw[C6];exact hl);rw[C6]at b;refine A0b (U1 (F.run X.A X.stack s H ⟨us,[]⟩ us vs Q (EE σ) hr I.env0 b r h) fun r s' hq=>?_);cases r with
 |error e=>exact ok.pass _ _ (XY ok.bd I hq)
 |ok fl=>
  cases fl with
  |ret u=>exact I.after hq
  |next=>exact False.elim hq
  |brk=>exact False.elim hq
  |cont=>exact False.elim hq
theorem aBd{EE:St->XK}{k:Nat}{x:Str}{ps:List Str}{sp:Sp}{p pos:Pos}{e:Expr}{es:List Expr}{t:TA}(ok:XOk X EE)(C:jC X.prog X.w X.K X.mg X.base k x ps sp)(hr:bS k X.A)(ha:PA X (e::es) t)(hg:Gl X x)
 (hdb:(x==("__debug__":Str))=false) (he:starEach (e::es) X.env=(false,eval e X.env)::starEach es X.env) (hpl:(backTo pos (starEach es X.env)).any (·.1)=false):
 PE X (.Call (.Name x p) (e::es) [] pos) (GC sp EE t):=by
 intro pins s σ H Q I h;obtain⟨f,fd,F,m,kp,b⟩:=C.ex;refine J4 (lA I hg m ?_ hdb);exact O0 (h₀:=X.base) I.ok.mod.kin kp (thn (ha pos pins s σ H _ I h) fun us s1 ⟨vs,H1,I1,r,q⟩=>⟨I1.kIn,aCK ok F hr b I1 r q⟩) he hpl
noncomputable abbrev bmV:List Value:=[.type "ValueError",.type "Exception",.type "BaseException",.type "object"]
theorem aCv{h:Heap}{C:Addr}{bmB:List Value}{nid:String}(X:K.In h)(q:PySem.W.excIn K C bmB nid=true):
 ∃bm N nm qn bs hd sn sub ab col dd k0 k1 k2 k3 k5 mN,h.get? C=some (excClassObj nm qn C N bs bm hd sn sub ab col dd k0 k1 k2 k3 k5 nid)/\h.Ns N mN/\mN "__init__"=none/\OwnTail h bmB bm:=by
 unfold PySem.W.excIn at q;split at q
 case h_2=>cases q
 case h_1 dd cd sl lk=>
  split at q
  case h_2=>cases q
  case h_1 C' bm k0 k1 k2 k3 n k5 hm hs=>
   simp only[Bool.and_eq_true,beq_iff_eq,Bool.not_eq_true']at q;obtain⟨⟨⟨⟨⟨q1,q2⟩,q3⟩,q4⟩,q5⟩,q6⟩:=q;subst q1 q2;cases cd with
   |mk nm bs mro ns qn hd sn sub ab col del=>
    cases hm;cases q3
    have es:sl=#[k0,k1,k2,k3,some (.builtin n),k5]:=by
     cases sl with
     |mk l=>exact O6 Array.mk hs
    cases es;exact⟨bm,ns,nm,qn,bs,hd,sn,sub,ab,col,dd,k0,k1,k2,k3,k5,_,X _ _ lk,.of_isNs (PySem.W.isNs_of_in X q5),PySem.W.nsMap_none_of_in X q5 q6,PySem.W.tail_of_in X q4⟩
noncomputable def FR(EE:St->XK)(C:Addr):TS:=fun _ σ H=>EE σ (.ref C) none H
theorem RE{EE:St->XK}{C:Addr}{x:Str}{np cpos pos:Pos}(ok:XOk X EE)(hc:X.calm=true)(hm:X.mg x=some (.ref C))(q:PySem.W.excIn X.K C bmV "ValueError.__new__"=true)(hg:Gl X x)
 (hdb:(x==("__debug__":Str))=false):PS X (.Raise (some (.Call (.Name x np) [] [] cpos)) none pos) (FR EE C):=by
 intro pins s σ H D I h;obtain⟨bm,N,nm,qn,bs,hd,sn,sub,ab,col,dd,k0,k1,k2,k3,k5,mN,oC,oN,oi,ot⟩:=aCv I.kIn q
 refine wpAny_Raise_call_subT (C:=C) (nm:=nm) (q:=qn) (N:=N) (bs:=bs) (bm:=bm) (hdct:=hd) (sn:=sn) (sub:=sub) (ab:=ab) (col:=col) (dd:=dd) (k0:=k0) (k1:=k1) (k2:=k2) (k3:=k3) (k5:=k5) (mN:=mN)
  F.excBase_ValueError (ot.hasType F.excBase_ValueError.hasBase) (I.ok.hd hc) rfl oi (lA I hg hm ⟨rfl,evalArgs_empty ⟨rfl,E3 _,oC,oN,ot,fun h' e mk=>ok.pass _ _ ?_⟩⟩ hdb)
 obtain⟨t,he,_,_⟩:=mk.there;have I':Inv X pins σ H { s with heap:=h' }:=I.kept mk.keeps
 have hn:H e=none:=by
  cases z:H e with
  |none=>rfl
  |some u=>
   obtain⟨o,z'⟩:=(I.hok e u z).there;rw[mk.new]at z';cases z'
 refine VE ok.bd I' he hn ?_ (fun p hp z=>?_) rfl (show 1<6 by decide) rfl h
 .cases z:X.s₀.heap.get? e with
  |none=>rfl
  |some o=>
   obtain⟨o1,z1⟩:=I.base.there e o z (by rw[ok.bd.ex];simp);rw[mk.new]at z1;cases z1
 .have:=(I.pin p (E6 _ hp)).1;rw[z,mk.new]at this;cases this
end
noncomputable def hCx(X:Cx)(e:Addr):Cx:={ X with A:=X.A.mark (some (.ref e)),calm:=false,xe:=fun _ _=>False }
noncomputable def xH(X:Cx)(pins:List (Addr×Obj)):Cx:={ X with pn:=X.pn++pins }
section
variable{X:Cx}{pins:List (Addr×Obj)}{σ:St}{H:Hp}{s:Shared}
theorem Inv.toH(I:Inv X pins σ H s)(e:Addr):Inv (hCx X e) pins σ H s:=
 ⟨⟨I.ok.mod,I.ok.kind,I.ok.glob,I.ok.blt,I.ok.above,I.ok.inj,I.ok.has,I.ok.cab,fun z=>(by cases z),I.ok.frames,I.ok.stk,I.ok.exf,I.ok.bs,I.ok.bsz,I.ok.noex,I.ok.exfs,I.ok.funs,I.ok.frf⟩,I.os,I.bare,I.base,I.loc,I.cell,I.free,I.freeC,I.pin,I.hok,I.len⟩
theorem Inv.ofH{e:Addr}(I:Inv (hCx X e) pins σ H s)(ok:X.Ok):Inv X pins σ H s:=⟨ok,I.os,I.bare,I.base,I.loc,I.cell,I.free,I.freeC,I.pin,I.hok,I.len⟩
theorem Inv.toP(I:Inv X pins σ H s):Inv (xH X pins) [] σ H s:=
 ⟨⟨I.ok.mod,I.ok.kind,I.ok.glob,I.ok.blt,I.ok.above,I.ok.inj,I.ok.has,I.ok.cab,I.ok.hd,I.ok.frames,I.ok.stk,I.ok.exf,I.ok.bs,I.ok.bsz,I.ok.noex,I.ok.exfs,I.ok.funs,I.ok.frf⟩,I.os,I.bare,I.base,I.loc,I.cell,I.free,I.freeC,fun p hp=>I.pin p (by rw[C6]at hp;exact hp),I.hok,I.len⟩
theorem Inv.ofP(I:Inv (xH X pins) [] σ H s)(ok:X.Ok):Inv X pins σ H s:=⟨ok,I.os,I.bare,I.base,I.loc,I.cell,I.free,I.freeC,fun p hp=>I.pin p (by rw[C6];exact hp),I.hok,I.len⟩
theorem Inv.track{e:Addr}{oe:Obj}{vs:Array Value}(I:Inv X pins σ H s)(he:s.heap.get? e=some oe)(hv:oe.data=.fields vs)(hn:H e=none)(h0:X.s₀.heap.get? e=none)(hp:∀p∈X.pn++pins,p.1≠e):
 Inv X pins σ (upd H e (.ext (oM e oe.cls oe.dict false))) s:=by
 have ne:∀b u,H b=some u->b≠e:=fun b u z=>aO z hn;refine⟨I.ok,I.os,I.bare,⟨I.base.keep,I.base.slot,fun b o q n hx=>?_,I.base.there,fun b xs q=>?_,fun b o u q=>?_,fun b ps q=>?_⟩,I.loc,I.cell,?_,fun x c q=>?_,fun p h=>?_,fun b u q=>?_,I.len⟩
 .rw[aJ (fun z=>by rw[z,h0]at q;cases q)];exact I.base.free b o q n hx
 .have:=I.base.tups b xs q;rw[aJ (ne _ _ this)];exact this
 .have:=I.base.frzs b o u q;rw[aJ (ne _ _ this)];exact this
 .obtain⟨more,this⟩:=I.base.tbls b ps q;exact⟨more,by rw[aJ (ne _ _ this)];exact this⟩
 .obtain⟨m,⟨o,es,ep,ho,hd,_⟩,_⟩:=I.loc;rw[aJ (jU he hv ho fun ws z=>by rw[hd]at z;cases z)];exact I.free
 .obtain⟨v,o,ho,hd⟩:=I.cell x c q;rw[aJ (jU he hv ho fun ws z=>by rw[hd]at z;cases z)];exact I.freeC x c q
 .obtain⟨q1,q2,q3⟩:=I.pin p h;exact⟨q1,by rw[aJ (hp p h)];exact q2,q3⟩
 .by_cases hb:b=e
  .subst hb;rw[aP]at q;cases q;exact⟨⟨oe,vs,he,rfl,rfl,hv,fun z=>by cases z⟩,⟨oe,he⟩,fun h1 h2 ⟨o,ws,z1,z2⟩ k=>⟨o,ws,k o z1,z2⟩⟩
  .rw[aJ hb]at q;exact(I.hok b u q).stay (fun _ _ _ z=>z) (fun c z=>by rw[aJ (ne _ _ z)];exact z) fun c xs z=>by rw[aJ (ne _ _ z)];exact z
theorem qX{M:Model}{A:Around}{E:Value->Shared->Prop}{i:Nat}{x:Str}{pos:Pos}{Q:Unit->Shared->Prop}(I:Inv X pins σ H s)(hN:X.N.Nodup)(hi:X.N[i]?=some x)(hk:X.env.scope.names.lookup x=some .local)
 (h:∀s',Inv X pins (σ.set i none) H s'->Q () s'):wpAny M A (do bindName X.env x .none;unbindBehindTheSuite X.env x pos) Q E s:=by
 obtain⟨m,hn,hl⟩:=id I.loc;have hcls:(X.env.scope.kind==.class || (X.env.scope.kind==.module&&X.env.locals != X.env.globals))=false:=by rw[I.ok.kind];rfl
 have hiσ:i<σ.length:=by rw[I.len];exact(List.getElem?_eq_some_iff.mp hi).1
 obtain⟨oL,_,_,hoL,_⟩:=id hn;refine wpAny_nameGoes_keeps hk hn hcls fun h' v hn' hs=>h _ ?_;have ltL:∀b o,X.s₀.heap.get? b=some o->b≠X.env.locals:=fun b o q=>B6 (B7 (A8 q) I.ok.above);refine⟨I.ok,I.os,I.bare,⟨fun b o q n hb hx=>(hs.2 b (ltL b o q)).trans (I.base.keep b o q n hb hx),fun b o q n hb hx=>?_,I.base.free,fun b o q hx=>?_,I.base.tups,I.base.frzs,I.base.tbls⟩,⟨_,hn',fun j y v' e1 e2 e3=>?_⟩,fun y c q=>?_,I.free,I.freeC,fun p hp=>?_,fun b u q=>?_,by simpa using I.len⟩
 .obtain⟨sl,e1⟩:=I.base.slot b o q n hb hx;exact⟨sl,(hs.2 b (ltL b o q)).trans e1⟩
 .obtain⟨o',e1⟩:=I.base.there b o q hx;exact⟨o',(hs.2 b (ltL b o q)).trans e1⟩
 .have hj:j≠i:=fun z=>by
   subst z;rw[E1 hiσ]at e2;cases e2
  rw[D7 (F0 hj)]at e2;obtain⟨u',r',z⟩:=hl j y v' e1 e2 e3;refine⟨u',r',?_⟩;rcases z with⟨k,e⟩|⟨k,c,e,z⟩
  .have:y≠x:=fun e=>hj (zS hN e1 (e▸hi));exact .inl ⟨k,by simp[this,e]⟩
  .exact .inr ⟨k,c,e,z.sameBut hs (I.cne y c e)⟩
 .obtain⟨w',z⟩:=I.cell y c q;exact⟨w',z.sameBut hs (I.cne y c q)⟩
 .obtain⟨e,n,ne,nf,d⟩:=I.pin p hp;exact⟨(hs.2 p.1 ne).trans e,n,ne,nf,d⟩
 .refine(I.hok b u q).stay (fun c w' hc z=>(hs.2 c ?_).trans z) (fun _ z=>z) fun _ _ z=>z;rintro rfl;rcases hc with rfl|hc
  .rw[I.free]at q;cases q
  .rw[I.free]at hc;cases hc
structure HR where
 c:Value
 n:Option Nat
 t:TS
noncomputable def unbN:Option Nat->St->St
 |none,σ=>σ
 |some i,σ=>σ.set i none
noncomputable def setN:Option Nat->St->V->St
 |none,σ,_=>σ
 |some i,σ,v=>σ.set i (some v)
noncomputable def ZO(D:Ends)(n:Option Nat):Ends:={ nx:=fun σ H=>D.nx (unbN n σ) H,rt:=D.rt,bk:=fun σ H=>D.bk (unbN n σ) H,ct:=fun σ H=>D.ct (unbN n σ) H }
noncomputable def tHs(K:Fg)(D:Ends):List HR->St->XK
 |[],_,_,_,_=>False
 |h::r,σ,c,dx,H=>∃b,PySem.W.exmOne K c h.c=some b/\(if b=true then ∀e,H e=none->h.t (ZO D h.n) (setN h.n σ (.ref e)) (upd H e (.ext (oM e c dx false)))else tHs K D r σ c dx H)
noncomputable def UV(X:Cx)(hs:List ExceptHandler)(rs:List HR):Prop:=∀(pins:List (Addr×Obj))(D:Ends)(e:Addr)(c:Value)(dx:Option Addr)(σ:St)(H:Hp)(s:Shared)(B:Heap)(E:Value->Shared->Prop),X.Ok->Inv (xH X pins) [] σ H s->Kp (xH X pins) H B s.heap->
 Fly B X.stack e c dx (some .none) s.heap->tHs X.K D rs σ c dx H->wpAny (model X.prog X.w) X.A (handleBy (.ref e) X.env hs) (SP X pins D) E s
theorem aFH:UV X [] []:=fun _ _ _ _ _ _ _ _ _ _ _ _ _ _ h=>h.elim
noncomputable def ZD(X:Cx)(x:Str)(c:Value):Prop:=X.mg x=some c\/(X.mg x=none/\bootBuiltins x=some c/\x≠"__name__")
theorem aEM{x:Str}{c:Value}{pos:Pos}{E:Value->Shared->Prop}{Q:Value->Shared->Prop}(n:ZD X x c)(I:Inv X pins σ H s)(hg:Gl X x)(hd:(x==("__debug__":Str))=false)(h:Q c s):
 wpAny (model X.prog X.w) X.A (eval (.Name x pos) X.env) Q E s:=by
 rcases n with m|⟨m,b,z⟩
 .exact lA I hg m h hd
 .exact tK I hg m b h z hd
theorem Fly.fresh{B h:Heap}{e:Addr}{c:Value}{dx st:_}(bd:Body X)(I:Inv X pins σ H s)(k:Kp X H B s.heap)(F:Fly B X.stack e c dx st s.heap):H e=none/\X.s₀.heap.get? e=none/\∀p∈X.pn,p.1≠e:=by
 obtain⟨oe,vs,he,_,_,hv⟩:=F.obj;refine⟨?_,?_,fun p hp z=>?_⟩
 .cases z:H e with
  |none=>rfl
  |some u=>
   have:=k.trk e u oe z he;rw[F.new]at this;cases this
 .cases z:X.s₀.heap.get? e with
  |none=>rfl
  |some o=>
   by_cases hf:e∈X.fs
   .obtain⟨_,o1,z1,hn⟩:=I.funs.mem hf;exact absurd rfl (jU he hv z1 hn)
   .obtain⟨⟨o',q⟩,_⟩:=k.ent e o z hf;rw[F.new]at q;cases q
 .have:=k.pin p hp;rw[z,F.new]at this;cases this
noncomputable def aHU(X:Cx):Option Str->Option Nat->Prop
 |none,none=>True
 |some n,some i=>X.N.Nodup/\X.N[i]?=some n/\X.env.scope.names.lookup n=some .local
 |_,_=>False
theorem aCa{x:Str}{np pos:Pos}{nm:Option Str}{b₀:Stmt}{suite:List Stmt}{hs:List ExceptHandler}{h:HR}{rs:List HR}(bd:Body X)(hc:ZD X x h.c)(hg:Gl X x)(hd:(x==("__debug__":Str))=false)
 (hn:aHU X nm h.n)
 (hS:∀e,PSs (hCx X e) (b₀::suite) h.t) (hR:UV X hs rs):UV X (.ExceptHandler (some (.Name x np)) nm (b₀::suite) pos::hs) (h::rs):=by
 intro pins D e c dx σ H s B E ok I k F hq;obtain⟨b,hb,hq⟩:=hq;have bp:Body (xH X pins):=⟨bd.stk,bd.fr,bd.ex⟩;obtain⟨oe,vs,he,hoc,_,hv⟩:=F.obj;have LT:PySem.W.Looks (model X.prog X.w) s.heap (typeOf (.ref e)) c:=hoc▸(PySem.W.Looks.ld he).andThen .now;have IH:=(I.ofP ok).toH e;have hA:(hCx X e).A=X.A.mark (some (.ref e)):=rfl;refine wpAny_handleBy_cons (codeAny_handlers_test (aEM (X:=hCx X e) hc IH hg hd ?_)) (by intro z;cases z);refine(PySem.W.exm_one IH.kIn LT hb).here ?_;cases b with
 |false=>exact hR pins D e c dx σ H s B E ok I k F hq
 |true=>
  rw[A4 rfl]at hq;have F':Fly B (xH X pins).stack e c dx (some .none) s.heap:=F
  have go:∀(P:Shared->Prop),(∀s',Inv X pins σ (upd H e (.ext (oM e c dx false))) s'->P s')->wpAny (model X.prog X.w) (X.A.mark (some (.ref e))) (setFlight (.ref e) none) (fun _ s1=>P s1) (notedBy (model X.prog X.w) (X.A.mark (some (.ref e))) X.env fun x s'=>cameBackBy (model X.prog X.w) X.A X.env E x s') s:=fun P hP=>by
   refine xQ (fo:=none) F' fun h1 F1 u1=>hP _ ?_;obtain⟨I1,k1⟩:=I.up bp k F1.stays u1;obtain⟨n1,n2,n3⟩:=Fly.fresh (s:={ s with heap:=h1 }) (h:=h1) bp I1 k1 F1;obtain⟨oe1,vs1,he1,hc1,hd1,hv1⟩:=F1.obj;have I2:=Inv.track I1 he1 hv1 n1 n2 fun p hp=>n3 p (by rw[C6]at hp;exact hp);rw[hc1,hd1]at I2;exact I2.ofP ok
  have hne:H e=none:=(Fly.fresh (h:=s.heap) bp I k F').1;have q0:=hq e hne;cases nm with
  |none=>
   cases hni:h.n with
   |some i=>rw[hni]at hn;exact False.elim hn
   |none=>
    rw[hni]at q0;refine codeAny_handlers_suite (go _ fun s1 I1=>?_);refine D0 (hS e pins s1 σ _ (ZO D none) (I1.toH e) q0) (fun f s2 z=>?_) fun _ _ z=>z.elim;cases f with
    |next=>obtain⟨σ',H',I',q⟩:=z;exact⟨σ',H',I'.ofH ok,q⟩
    |brk=>obtain⟨σ',H',I',q⟩:=z;exact⟨σ',H',I'.ofH ok,q⟩
    |cont=>obtain⟨σ',H',I',q⟩:=z;exact⟨σ',H',I'.ofH ok,q⟩
    |ret u=>obtain⟨v,σ',H',I',r,q⟩:=z;exact⟨v,σ',H',I'.ofH ok,r,q⟩
  |some n=>
   cases hni:h.n with
   |none=>rw[hni]at hn;exact False.elim hn
   |some i=>
    rw[hni]at hn q0;obtain⟨nd,hi,lo⟩:=hn;refine codeAny_handlers_suite_as (go _ fun s1 I1=>?_);refine pB (X:=X) I1 nd hi (.inl lo) (v:=.ref e) rfl (fun s2 I2=>?_) (.inr lo);refine D0 (hS e pins s2 _ _ (ZO D (some i)) (I2.toH e) q0) (fun f s3 z=>?_) fun _ _ z=>z.elim;show wpAny _ _ _ (fun _ s₃=>SP X pins D f s₃) E s3;cases f with
    |next=>obtain⟨σ',H',I',q⟩:=z;exact qX (I'.ofH ok) nd hi lo fun s4 I4=>⟨_,H',I4,q⟩
    |brk=>obtain⟨σ',H',I',q⟩:=z;exact qX (I'.ofH ok) nd hi lo fun s4 I4=>⟨_,H',I4,q⟩
    |cont=>obtain⟨σ',H',I',q⟩:=z;exact qX (I'.ofH ok) nd hi lo fun s4 I4=>⟨_,H',I4,q⟩
    |ret u=>obtain⟨v,σ',H',I',r,q⟩:=z;exact qX (I'.ofH ok) nd hi lo fun s4 I4=>⟨v,_,H',I4,r,q⟩
noncomputable def aEr(K:Fg)(tb:(St->XK)->TS)(rs:List HR):TS:=fun D σ H=>tb (tHs K D rs) D σ H
theorem aGW{body:List Stmt}{h₀:ExceptHandler}{hs:List ExceptHandler}{pos:Pos}{tb:(St->XK)->TS}{rs:List HR}(bd:Body X)
 (hb:∀pins EE,PSs ((xH X pins).wish (XS (xH X pins) EE)) body (tb EE)) (hh:UV X (h₀::hs) rs):PS X (.Try body (h₀::hs) [] [] pos) (aEr X.K tb rs):=by
 intro pins s σ H D I h;have bp:Body (xH X pins):=⟨bd.stk,bd.fr,bd.ex⟩;refine wpAny_Try_except (D0 (hb pins (tHs X.K D rs) [] s σ H D (I.toP.wish _) h) (fun f s1 z=>?_) fun ev s1 z=>?_)
 .cases f with
  |next=>obtain⟨σ',H',I',q⟩:=z;exact Z8 ⟨σ',H',I'.unwish.ofP I.ok,q⟩
  |brk=>obtain⟨σ',H',I',q⟩:=z;exact⟨σ',H',I'.unwish.ofP I.ok,q⟩
  |cont=>obtain⟨σ',H',I',q⟩:=z;exact⟨σ',H',I'.unwish.ofP I.ok,q⟩
  |ret u=>obtain⟨v,σ',H',I',r,q⟩:=z;exact⟨v,σ',H',I'.unwish.ofP I.ok,r,q⟩
 .obtain⟨e,c,dx,st,σ1,H1,B,rfl,I1,k1,F1,hst,q⟩:=z;have hf:=I1.ok.frames;have F1':=F1;rw[bp.stk]at F1' hf;refine GH hf bp.fr F1' hst fun h2 F2 u2=>xQ (s:={ s1 with heap:=h2 }) (fo:=none) F2 fun h3 F3 u3=>?_;obtain⟨I2,k2⟩:=I1.up bp k1 F2.stays u2;obtain⟨I3,k3⟩:=I2.up bp k2 F3.stays u3;exact hh pins D e c dx σ1 H1 _ B _ I.ok I3 k3 (by rw[bd.stk];exact F3) q
end
structure Exc where
 nm:Str
 fs:List (Str×CD)
inductive Rs where
 |v (x:CD)|x (e:Exc)
inductive RA where
 |o (o:Out)|xc (γ:Ga) (e:Exc)
noncomputable abbrev EX:=Ga->Sto->Option (Rs×Sto)
noncomputable abbrev AX:=Ga->Sto->Option ((List CD ⊕ Exc)×Sto)
noncomputable abbrev SFX:=Ga->Sto->Option (RA×Sto)
noncomputable abbrev FX:=List CD->Sto->Option (Rs×Sto)
section
variable(K:Fg)
noncomputable def ExR(W:Wd)(ex:Exc)(c:Value)(dx:Option Addr):Prop:=c=.ref (aR K ex.nm)/\JQ K W dx ex.fs
noncomputable def aDm(E:XK)(Q:VK)(W:Wd)(H:Hp):Rs->Prop
 |.v x=>∀v,bP K W x v->Q v H
 |.x ex=>∀c dx,ExR K W ex c dx->E c dx H
noncomputable def SEX(EE:St->XK)(t:TE)(f:EX):Prop:=∀γ M r M',f γ M=some (r,M')->∀(W:Wd)(H:Hp)(σ:St)(Q:VK),Good K W M H->cF K W γ σ->(∀W' H',W.Ext W'->Good K W' M' H'->aDm K (EE σ) Q W' H' r)->t σ H Q
noncomputable def aIc(E:XK)(Q:List V->Hp->Prop)(W:Wd)(H:Hp):List CD ⊕ Exc->Prop
 |.inl xs=>∀vs,bM K W xs vs->Q vs H
 |.inr ex=>∀c dx,ExR K W ex c dx->E c dx H
noncomputable def SAX(EE:St->XK)(t:TA)(f:AX):Prop:=∀γ M r M',f γ M=some (r,M')->∀(W:Wd)(H:Hp)(σ:St)(Q:List V->Hp->Prop),Good K W M H->cF K W γ σ->(∀W' H',W.Ext W'->Good K W' M' H'->aIc K (EE σ) Q W' H' r)->t σ H Q
noncomputable def aEJ(EE:St->XK)(D:Ends)(W:Wd)(H:Hp):RA->Prop
 |.o o=>YG K D W H o
 |.xc γ ex=>∀σ c dx,cF K W γ σ->ExR K W ex c dx->EE σ c dx H
noncomputable def SSX(EE:St->XK)(t:TS)(f:SFX):Prop:=∀γ M o M',f γ M=some (o,M')->∀(W:Wd)(H:Hp)(σ:St)(D:Ends),Good K W M H->cF K W γ σ->(∀W' H',W.Ext W'->Good K W' M' H'->aEJ K EE D W' H' o)->t D σ H
noncomputable def spX(f:FX):Sp:=fun vs H Q E=>∃xs M W r M',Good K W M H/\bM K W xs vs/\f xs M=some (r,M')/\∀W' H',W.Ext W'->Good K W' M' H'->aDm K E Q W' H' r
end
noncomputable def liE(f:EF):EX:=fun γ M=>(f γ M).bind fun r=>some (.v r.1,r.2)
noncomputable def liA(f:AF):AX:=fun γ M=>(f γ M).bind fun r=>some (.inl r.1,r.2)
noncomputable def liS(f:SF):SFX:=fun γ M=>(f γ M).bind fun r=>some (.o r.1,r.2)
noncomputable def zF(f:EX)(g:AX):AX:=fun γ M=>(f γ M).bind fun r=>match r.1 with
 |.x e=>some (.inr e,r.2)
 |.v x=>(g γ r.2).bind fun q=>match q.1 with
  |.inr e=>some (.inr e,q.2)
  |.inl xs=>some (.inl (x::xs),q.2)
noncomputable def aDu(f:EX)(k:CD->Sto->Option (Rs×Sto)):EX:=fun γ M=>(f γ M).bind fun r=>match r.1 with
 |.x e=>some (.x e,r.2)
 |.v x=>k x r.2
noncomputable def aAC(f:AX)(k:List CD->Sto->Option (Rs×Sto)):EX:=fun γ M=>(f γ M).bind fun r=>match r.1 with
 |.inr e=>some (.x e,r.2)
 |.inl xs=>k xs r.2
noncomputable def yX(h:FX)(f:AX):EX:=aAC f h
noncomputable def SB(f:AX):EX:=aAC f fun xs M=>(hV xs).bind fun ds=>if ds.length<=sizeLine then some (.v (.d (.tuple ds)),M)else none
noncomputable def RI(nm f:Str)(e:EX):EX:=aDu e fun x M=>(objOf nm M x).bind fun p=>(p.2.lookup f).bind fun v=>some (.v v,M)
noncomputable def lH(f g:SFX):SFX:=fun γ M=>(f γ M).bind fun r=>match r.1 with
 |.o (.nx γ')=>g γ' r.2
 |o=>some (o,r.2)
noncomputable def QO(f:EX):SFX:=fun γ M=>(f γ M).bind fun r=>match r.1 with
 |.x e=>some (.xc γ e,r.2)
 |.v x=>some (.o (.rt x),r.2)
noncomputable def zT(f:EX):SFX:=fun γ M=>(f γ M).bind fun r=>match r.1 with
 |.x e=>some (.xc γ e,r.2)
 |.v _=>some (.o (.nx γ),r.2)
noncomputable def PQ(f:EX)(g:GF):SFX:=fun γ M=>(f γ M).bind fun r=>match r.1 with
 |.x e=>some (.xc γ e,r.2)
 |.v x=>(g x γ r.2).bind fun q=>some (.o (.nx q.1),q.2)
noncomputable def HG(c:TF)(f g:SFX):SFX:=fun γ M=>(c γ M).bind fun r=>if r.1=true then f γ r.2 else g γ r.2
noncomputable def uX(nm:Str):SFX:=fun γ M=>some (.xc γ ⟨nm,[]⟩,M)
noncomputable def fnX(ps N:Nat)(b:SFX):FX:=fun xs M=>if xs.length=ps then(b (xs.map some++List.replicate (N-xs.length) none) M).bind fun r=>match r.1 with
 |.o (.rt x)=>some (.v x,r.2)
 |.o (.nx _)=>some (.v (.d .none),r.2)
 |.xc _ e=>some (.x e,r.2)
 |_=>none else none
noncomputable def VU:Option Nat->Ga->Ga
 |none,γ=>γ
 |some i,γ=>γ.set i none
noncomputable def setG:Option Nat->Ga->CD->Ga
 |none,γ,_=>γ
 |some i,γ,x=>γ.set i (some x)
noncomputable def aFN(n:Option Nat):Out->Out
 |.nx γ=>.nx (VU n γ)
 |.bk γ=>.bk (VU n γ)
 |.ct γ=>.ct (VU n γ)
 |.rt x=>.rt x
structure HMi where
 tab:List (Str×Bool)
 n:Option Nat
 f:SF
noncomputable def aAB:List HMi->Ga->Exc->Sto->Option (Out×Sto)
 |[],_,_,_=>none
 |h::r,γ,ex,M=>match h.tab.lookup ex.nm with
  |some true=>(h.f (setG h.n γ (.c M.length)) (M++[.exc false ex.nm ex.fs])).bind fun q=>some (aFN h.n q.1,q.2)
  |some false=>aAB r γ ex M
  |none=>none
noncomputable def aBO(b:SFX)(hs:List HMi):SF:=fun γ M=>(b γ M).bind fun r=>match r.1 with
 |.o o=>some (o,r.2)
 |.xc γ' ex=>aAB hs γ' ex r.2
section
variable{K:Fg}{EE:St->XK}{ta tb:TE}{tA:TA}{t u:TS}{f g:EX}{fa:AX}{p q:SFX}{tt:TT}{ft:TF}{tg:TG}{hg:GF}
theorem aEa{f:EF}(a:SE K ta f):SEX K EE ta (liE f):=by
 intro γ M r M' h W H σ Q G R k;obtain⟨⟨x,M1⟩,h1,h⟩:=aG h;cases h;exact a _ _ _ _ h1 W H σ Q G R fun v W' H' e G' rv=>k W' H' e G' v rv
theorem aFx{f:AF}(a:SA K tA f):SAX K EE tA (liA f):=by
 intro γ M r M' h W H σ Q G R k;obtain⟨⟨x,M1⟩,h1,h⟩:=aG h;cases h;exact a _ _ _ _ h1 W H σ Q G R fun v W' H' e G' rv=>k W' H' e G' v rv
theorem XR{f:SF}(a:SS K t f):SSX K EE t (liS f):=by
 intro γ M r M' h W H σ D G R k;obtain⟨⟨x,M1⟩,h1,h⟩:=aG h;cases h;exact a _ _ _ _ h1 W H σ D G R fun W' H' e G'=>k W' H' e G'
theorem aAs(a:SEX K EE ta f)(b:SAX K EE tA fa):SAX K EE (iZ ta tA) (zF f fa):=by
 intro γ M r M' h W H σ Q G R k;obtain⟨⟨x,M1⟩,h1,h⟩:=aG h;refine a _ _ _ _ h1 W H σ _ G R fun W1 H1 e1 G1=>?_;cases x with
 |x e=>cases h;exact k W1 H1 e1 G1
 |v x=>
  intro v rv;obtain⟨⟨y,M2⟩,h2,h⟩:=aG (show(fa γ M1).bind _=_ from h);refine b _ _ _ _ h2 W1 H1 σ _ G1 (R.up e1) fun W2 H2 e2 G2=>?_;cases y with
  |inr e=>cases h;exact k W2 H2 (e1.trans e2) G2
  |inl xs=>cases h;exact fun vs rs=>k W2 H2 (e1.trans e2) G2 _ (.cons (rv.up e2) rs)
theorem aBX(a:SAX K EE tA fa):SEX K EE (NU tA) (SB fa):=by
 intro γ M r M' h W H σ Q G R k;obtain⟨⟨x,M1⟩,h1,h⟩:=aG h;refine a _ _ _ _ h1 W H σ _ G R fun W1 H1 e1 G1=>?_;cases x with
 |inr e=>cases h;exact k W1 H1 e1 G1
 |inl xs=>
  intro vs rs;obtain⟨ds,h2,h⟩:=aG (show(hV xs).bind _=_ from h)
  have hl:ds.length<=sizeLine:=by
   by_cases z:ds.length<=sizeLine
   .exact z
   .rw[A5 z]at h;cases h
  rw[A4 hl]at h;cases h;refine⟨by rw[<- Paired.len rs,<- AG h2];exact hl,fun b hb=>?_⟩;obtain⟨e2,G2⟩:=G1.lay (o:=.tup vs) hb;exact k _ _ (e1.trans e2) G2 _ ⟨b,vs,rfl,SqT.of aP,aK.same e2.ff _ _ (cX h2 rs)⟩
theorem YN{h:FX}(a:SAX K EE tA fa):SEX K EE (GC (spX K h) EE tA) (yX h fa):=by
 intro γ M r M' hh W H σ Q G R k;obtain⟨⟨x,M1⟩,h1,hh⟩:=aG hh;refine a _ _ _ _ h1 W H σ _ G R fun W1 H1 e1 G1=>?_;cases x with
 |inr e=>cases hh;exact k W1 H1 e1 G1
 |inl xs=>exact fun vs rs=>⟨xs,M1,W1,r,M',G1,rs,hh,fun W2 H2 e2 G2=>k W2 H2 (e1.trans e2) G2⟩
theorem aCj{nm fl:Str}(c:Cls K (aR K nm))(n:eX K (aR K nm) fl)(a:SEX K EE ta f):SEX K EE (aBm K ta fl) (RI nm fl f):=by
 intro γ M r M' hh W H σ Q G R k;obtain⟨⟨x,M1⟩,h1,hh⟩:=aG hh;refine a _ _ _ _ h1 W H σ _ G R fun W1 H1 e1 G1=>?_;cases x with
 |x e=>cases hh;exact k W1 H1 e1 G1
 |v x=>
  intro v rv;obtain⟨⟨i,fs⟩,h2,hh⟩:=aG (show(objOf nm M1 x).bind _=_ from hh);obtain⟨y,h3,hh⟩:=aG hh;cases hh;obtain⟨rfl,hi⟩:=pD h2;obtain⟨dx,us,ho,hp⟩:=G1.objAt hi;obtain⟨u,hu,ru⟩:=vT hp h3;exact⟨_,_,dx,us,u,rv.2,ho,c,n,hu,k W1 H1 e1 G1 u ru⟩
theorem aCW(a:SSX K EE t p)(b:SSX K EE u q):SSX K EE (aFR t u) (lH p q):=by
 intro γ M o M' hh W H σ D G R k;obtain⟨⟨x,M1⟩,h1,hh⟩:=aG hh;refine a _ _ _ _ h1 W H σ _ G R fun W1 H1 e1 G1=>?_;cases x with
 |xc γ' e=>cases hh;exact k W1 H1 e1 G1
 |o x=>
  cases x with
  |nx γ'=>exact fun σ' R'=>b _ _ _ _ hh W1 H1 σ' D G1 R' fun W2 H2 e2 G2=>k W2 H2 (e1.trans e2) G2
  |bk γ'=>cases hh;exact k W1 H1 e1 G1
  |ct γ'=>cases hh;exact k W1 H1 e1 G1
  |rt x=>cases hh;exact k W1 H1 e1 G1
theorem aBQ(a:SEX K EE ta f):SSX K EE (aGn ta) (QO f):=by
 intro γ M o M' hh W H σ D G R k;obtain⟨⟨x,M1⟩,h1,hh⟩:=aG hh;refine a _ _ _ _ h1 W H σ _ G R fun W1 H1 e1 G1=>?_;cases x with
 |x e=>cases hh;exact fun c dx z=>k W1 H1 e1 G1 σ c dx (R.up e1) z
 |v x=>cases hh;exact fun v rv=>k W1 H1 e1 G1 v rv
theorem YY(a:SEX K EE ta f):SSX K EE (aAh ta) (zT f):=by
 intro γ M o M' hh W H σ D G R k;obtain⟨⟨x,M1⟩,h1,hh⟩:=aG hh;refine a _ _ _ _ h1 W H σ _ G R fun W1 H1 e1 G1=>?_;cases x with
 |x e=>cases hh;exact fun c dx z=>k W1 H1 e1 G1 σ c dx (R.up e1) z
 |v x=>cases hh;exact fun v rv=>k W1 H1 e1 G1 σ (R.up e1)
theorem aCD(a:SEX K EE ta f)(b:SG K tg hg):SSX K EE (VC ta tg) (PQ f hg):=by
 intro γ M o M' hh W H σ D G R k;obtain⟨⟨x,M1⟩,h1,hh⟩:=aG hh;refine a _ _ _ _ h1 W H σ _ G R fun W1 H1 e1 G1=>?_;cases x with
 |x e=>cases hh;exact fun c dx z=>k W1 H1 e1 G1 σ c dx (R.up e1) z
 |v x=>
  intro v rv;obtain⟨⟨γ2,M2⟩,h2,hh⟩:=aG (show(hg x γ M1).bind _=_ from hh);cases hh;exact b _ _ _ _ _ h2 W1 H1 σ v _ G1 (R.up e1) rv fun σ2 W2 H2 e2 G2 R2=>k W2 H2 (e1.trans e2) G2 σ2 R2
theorem aEE(c:STt K tt ft)(a:SSX K EE t p)(b:SSX K EE u q):SSX K EE (aEY tt t u) (HG ft p q):=by
 intro γ M o M' hh W H σ D G R k;obtain⟨⟨x,M1⟩,h1,hh⟩:=aG hh;refine c _ _ _ _ h1 W H σ _ G R fun W1 H1 e1 G1=>?_;cases x with
 |true=>rw[A4 rfl];rw[A4 rfl]at hh;exact a _ _ _ _ hh W1 H1 σ D G1 (R.up e1) fun W2 H2 e2 G2=>k W2 H2 (e1.trans e2) G2
 |false=>rw[A5 A6];rw[A5 A6]at hh;exact b _ _ _ _ hh W1 H1 σ D G1 (R.up e1) fun W2 H2 e2 G2=>k W2 H2 (e1.trans e2) G2
theorem RQ{nm:Str}:SSX K EE (FR EE (aR K nm)) (uX nm):=by
 intro γ M o M' hh W H σ D G R k;cases hh;exact k W H (.refl _) G σ _ none R ⟨rfl,rfl⟩
theorem cF.setN{γ:Ga}{n:Option Nat}{x:CD}{v:V}(R:cF K W γ σ)(r:bP K W x v):cF K W (setG n γ x) (setN n σ v):=by
 cases n with
 |none=>exact R
 |some i=>exact Paired.set (x:=some x) (y:=some v) r i R
theorem cF.unbN{γ:Ga}{n:Option Nat}(R:cF K W γ σ):cF K W (VU n γ) (unbN n σ):=by
 cases n with
 |none=>exact R
 |some i=>exact Paired.set (x:=none) (y:=none) True.intro i R
inductive HsM(K:Fg):List HR->List HMi->Prop
 |nil:HsM K [] []
 |cons {h:HR} {m:HMi} {hs:List HR} {ms:List HMi} (hn:h.n=m.n) (ht:∀nm b,m.tab.lookup nm=some b->PySem.W.exmOne K (.ref (aR K nm)) h.c=some b) (hS:SS K h.t m.f) (r:HsM K hs ms):HsM K (h::hs) (m::ms)
theorem WH{D:Ends}{W:Wd}{M M':Sto}{H:Hp}{γ:Ga}{σ:St}{ex:Exc}{c:Value}{dx:Option Addr}{o:Out}(G:Good K W M H)(R:cF K W γ σ)(E:ExR K W ex c dx):
 ∀{hs:List HR}{ms:List HMi},HsM K hs ms->aAB ms γ ex M=some (o,M')->(∀W' H',W.Ext W'->Good K W' M' H'->YG K D W' H' o)->tHs K D hs σ c dx H
 |_,_,.nil=>fun h _=>by cases h
 |_,_,@HsM.cons _ h m hs ms hn ht hS r=>fun hh k=>by
  obtain⟨rfl,rx⟩:=E;unfold aAB at hh;cases e:m.tab.lookup ex.nm with
  |none=>rw[e]at hh;cases hh
  |some b=>
   rw[e]at hh;refine⟨b,ht _ _ e,?_⟩;cases b with
   |false=>rw[A5 A6];exact WH G R ⟨rfl,rx⟩ r hh k
   |true=>
    rw[A4 rfl];intro a ha;obtain⟨⟨o1,M1⟩,h1,hh⟩:=aG (show(m.f _ _).bind _=_ from hh);have hh':some (aFN m.n o1,M1)=some (o,M'):=hh;cases hh';have G':Good K (W.more a) (M++[.exc false ex.nm ex.fs]) (upd H a (.ext (oM a (.ref (aR K ex.nm)) dx false))):=G.new ha ⟨dx,rfl,rx⟩;have e1:=W.ext_more a;have ra:bP K (W.more a) (.c M.length) (.ref a):=⟨by show M.length<W.n+1;rw[G.n];exact F5 _,by show _=V.ref (if M.length=W.n then a else _);rw[A4 G.n.symm]⟩;rw[hn];refine hS _ _ _ _ h1 (W.more a) _ _ _ G' ((R.up e1).setN ra) fun W2 H2 e2 G2=>?_;have kk:=k W2 H2 (e1.trans e2) G2;cases o1 with
    |nx γ2=>exact fun σ2 R2=>kk _ R2.unbN
    |bk γ2=>exact fun σ2 R2=>kk _ R2.unbN
    |ct γ2=>exact fun σ2 R2=>kk _ R2.unbN
    |rt x=>exact kk
theorem aFY{tb:(St->XK)->TS}{rs:List HR}{ms:List HMi}(b:∀EE,SSX K EE (tb EE) p)(h:HsM K rs ms):SS K (aEr K tb rs) (aBO p ms):=by
 intro γ M o M' hh W H σ D G R k;obtain⟨⟨x,M1⟩,h1,hh⟩:=aG hh;refine b _ _ _ _ _ h1 W H σ D G R fun W1 H1 e1 G1=>?_;cases x with
 |o x=>cases hh;exact k W1 H1 e1 G1
 |xc γ' ex=>exact fun σ' c dx R' E=>WH G1 R' E h hh fun W2 H2 e2 G2=>k W2 H2 (e1.trans e2) G2
end
section
variable{ι:Type}
structure MX(K:Fg)(X:ι->Cx)(EE:ι->St->XK)(e:Expr)(f:EX):Prop where
 ex:∃t:ι->TE,(∀i,PE (X i) e (t i))/\∀i,SEX K (EE i) (t i) f
structure MAX(K:Fg)(X:ι->Cx)(EE:ι->St->XK)(es:List Expr)(f:AX):Prop where
 ex:∃t:ι->TA,(∀i,PA (X i) es (t i))/\∀i,SAX K (EE i) (t i) f
 st:HN es
structure MSX(K:Fg)(X:ι->Cx)(EE:ι->St->XK)(st:Stmt)(f:SFX):Prop where
 ex:∃t:ι->TS,(∀i,PS (X i) st (t i))/\∀i,SSX K (EE i) (t i) f
structure MLX(K:Fg)(X:ι->Cx)(EE:ι->St->XK)(st:List Stmt)(f:SFX):Prop where
 ex:∃t:ι->TS,(∀i,PSs (X i) st (t i))/\∀i,SSX K (EE i) (t i) f
variable{K:Fg}{X:ι->Cx}{EE:ι->St->XK}{e a b c tg iter:Expr}{es:List Expr}{f g:EX}{fa:AX}{p q:SFX}{ft:TF}{gf:GF}{st:Stmt}{sts sts':List Stmt}{pos:Pos}
theorem aIo{f:EF}(x:ME K X e f):MX K X EE e (liE f):=by
 obtain⟨t,x1,x2⟩:=x.ex;exact⟨fun _=>t,x1,fun _=>aEa x2⟩
theorem yL{f:AF}(x:MA K X es f):MAX K X EE es (liA f):=by
 obtain⟨t,x1,x2⟩:=x.ex;exact⟨⟨fun _=>t,x1,fun _=>aFx x2⟩,x.st⟩
theorem FT{f:SF}(x:MS K X st f):MSX K X EE st (liS f):=by
 obtain⟨t,x1,x2⟩:=x.ex;exact⟨fun _=>t,x1,fun _=>XR x2⟩
theorem qB{f:SF}(x:ML K X sts f):MLX K X EE sts (liS f):=by
 obtain⟨t,x1,x2⟩:=x.ex;exact⟨fun _=>t,x1,fun _=>XR x2⟩
theorem max_cons(x:MX K X EE e f)(y:MAX K X EE es fa)(hs:BX e es:=by intro _;rfl):MAX K X EE (e::es) (zF f fa):=by
 obtain⟨t,x1,x2⟩:=x.ex;obtain⟨u,y1,y2⟩:=y.ex;exact⟨⟨_,fun i=>dU (x1 i) (y1 i) (hs _),fun i=>aAs (x2 i) (y2 i)⟩,hs,y.st⟩
theorem aGa{k:Nat}(x:MAX K X EE es fa):MX K X EE (.Tuple es k pos) (SB fa):=by
 obtain⟨t,x1,x2⟩:=x.ex;exact⟨_,fun i=>sR (x1 i),fun i=>aBX (x2 i)⟩
theorem xT{k:Nat}{x:Str}{ps:List Str}{F:FX}{p:Pos}(ok:∀i,XOk (X i) (EE i))(C:∀i,jC (X i).prog (X i).w (X i).K (X i).mg (X i).base k x ps (spX K F))(hr:∀i,bS k (X i).A)(y:MAX K X EE (e::es) fa)(hg:∀i,Gl (X i) x:=by intro _;rfl)(hd:(x==("__debug__":Str))=false:=by decide):
 MX K X EE (.Call (.Name x p) (e::es) [] pos) (yX F fa):=by
 obtain⟨u,y1,y2⟩:=y.ex;exact⟨_,fun i=>aBd (ok i) (C i) (hr i) (y1 i) (hg i) hd (y.st.1 _) (y.st.2.plain _ _),fun i=>YN (y2 i)⟩
theorem jF(x:MSX K X EE st p):MLX K X EE [st] p:=by
 obtain⟨t,x1,x2⟩:=x.ex;exact⟨t,fun i=>OS (x1 i),x2⟩
theorem eT(x:MSX K X EE st p)(y:MLX K X EE sts q):MLX K X EE (st::sts) (lH p q):=by
 obtain⟨t,x1,x2⟩:=x.ex;obtain⟨u,y1,y2⟩:=y.ex;exact⟨_,fun i=>IY (x1 i) (y1 i),fun i=>aCW (x2 i) (y2 i)⟩
theorem aBo(x:MX K X EE e f):MSX K X EE (.Return (some e) pos) (QO f):=by
 obtain⟨t,x1,x2⟩:=x.ex;exact⟨_,fun i=>VS (x1 i),fun i=>aBQ (x2 i)⟩
theorem HW(x:MX K X EE e f)(hs:∀i,swapsWith e none pos.line (X i).env=pure false:=by intro _;rfl):MSX K X EE (.Expr e pos) (zT f):=by
 obtain⟨t,x1,x2⟩:=x.ex;exact⟨_,fun i=>OQ (x1 i) (hs i),fun i=>YY (x2 i)⟩
theorem aCA(i:Nat){x':Str}{pos':Pos}(hN:∀j,(X j).N.Nodup)(x:MX K X EE e f)(hi:∀j,(X j).N[i]?=some x':=by intro _;rfl)(hx:∀j,Loc (X j).env.scope x':=by intro _;first|exact Or.inl rfl|exact Or.inr rfl)(hs:∀j,swapsWith e (some (.Name x' pos')) pos.line (X j).env=pure false:=by intro _;rfl)
 (hf:∀j,(X j).fn x'=true\/(X j).env.scope.names.lookup x'=some .local:=by intro _;first|exact .inl rfl|exact .inr rfl):MSX K X EE (.Assign [.Name x' pos'] e pos) (PQ f (hName i)):=by
 obtain⟨t,x1,x2⟩:=x.ex;exact⟨_,fun j=>WK (hN j) (hi j) (hx j) (x1 j) (hs j) (hf j),fun j=>aCD (x2 j) tQ⟩
theorem BN(x:MT K X c ft)(y:MLX K X EE sts p)(z:MLX K X EE sts' q):MSX K X EE (.If c sts sts' pos) (HG ft p q):=by
 obtain⟨t,x1,x2⟩:=x.ex;obtain⟨u,y1,y2⟩:=y.ex;obtain⟨v,z1,z2⟩:=z.ex;exact⟨_,fun i=>aDl (x1 i) (y1 i) (z1 i),fun i=>aEE x2 (y2 i) (z2 i)⟩
theorem sS{x:Str}{np cpos:Pos}(ok:∀i,XOk (X i) (EE i))(hK:∀i,(X i).K=K)(hc:∀i,(X i).calm=true)(hm:∀i,(X i).mg x=some (.ref (aR K x)))(q:PySem.W.excIn K (aR K x) bmV "ValueError.__new__"=true)(hg:∀i,Gl (X i) x:=by intro _;rfl)(hd:(x==("__debug__":Str))=false:=by decide):
 MSX K X EE (.Raise (some (.Call (.Name x np) [] [] cpos)) none pos) (uX x):=
 ⟨fun i=>FR (EE i) (aR K x),fun i=>RE (ok i) (hc i) (hm i) (by rw[hK i];exact q) (hg i) hd,fun _=>RQ⟩
noncomputable def aIu(X:ι->Cx):ι×List (Addr×Obj)×(St->XK)->Cx:=fun j=>(xH (X j.1) j.2.1).wish (XS (xH (X j.1) j.2.1) j.2.2)
noncomputable def aHQ:ι×List (Addr×Obj)×(St->XK)->St->XK:=fun j=>j.2.2
noncomputable def aIR(X:ι->Cx):ι×Addr->Cx:=fun j=>hCx (X j.1) j.2
theorem aHf(bd:∀i,Body (X i))(j:ι×List (Addr×Obj)×(St->XK)):XOk (aIu X j) (aHQ (ι:=ι) j):=
 XOk.of (X:=xH (X j.1) j.2.1) ⟨(bd j.1).stk,(bd j.1).fr,(bd j.1).ex⟩ _
structure MH(K:Fg)(X:ι->Cx)(hs:List ExceptHandler)(ms:List HMi):Prop where
 ex:∃rs,(∀i,UV (X i) hs rs)/\HsM K rs ms
theorem aGK:MH K X [] []:=⟨[],fun _=>aFH,.nil⟩
theorem OJ{x:Str}{np hp:Pos}{nm:Option Str}{b₀:Stmt}{suite:List Stmt}{hs:List ExceptHandler}{ms:List HMi}{tab:List (Str×Bool)}{n:Option Nat}{f:SF}(cv:Value)(bd:∀i,Body (X i))(hc:∀i,ZD (X i) x cv)
 (hn:∀i,aHU (X i) nm n)
 (ht:∀p∈tab,PySem.W.exmOne K (.ref (aR K p.1)) cv=some p.2) (hS:ML K (aIR X) (b₀::suite) f) (r:MH K X hs ms) (hg:∀i,Gl (X i) x:=by intro _;rfl) (hd:(x==("__debug__":Str))=false:=by decide):
 MH K X (.ExceptHandler (some (.Name x np)) nm (b₀::suite) hp::hs) (⟨tab,n,f⟩::ms):=by
 obtain⟨t,h1,h2⟩:=hS.ex;obtain⟨rs,r1,r2⟩:=r.ex;refine⟨⟨cv,n,t⟩::rs,fun i=>aCa (h:=⟨cv,n,t⟩) (bd i) (hc i) (hg i) hd (hn i) (fun e=>h1 (i,e)) (r1 i),.cons rfl (fun nm b z=>?_) h2 r2⟩;exact ht (nm,b) (E4 z)
theorem aGf{h₀:ExceptHandler}{hs:List ExceptHandler}{ms:List HMi}(bd:∀i,Body (X i))(hK:∀i,(X i).K=K)(x:MLX K (aIu X) (aHQ (ι:=ι)) sts p)(h:MH K X (h₀::hs) ms):MS K X (.Try sts (h₀::hs) [] [] pos) (aBO p ms):=by
 obtain⟨rs,r1,r2⟩:=h.ex;obtain⟨t,x1,x2⟩:=x.ex;refine⟨aEr K (fun EE D σ H=>∀i pins,t (i,pins,EE) D σ H) rs,fun i=>?_,aFY (fun EE=>?_) r2⟩
 .have:=aGW (X:=X i) (tb:=fun EE D σ H=>∀i pins,t (i,pins,EE) D σ H) (pos:=pos) (bd i) (fun pins EE ps s σ H D I h=>x1 (i,pins,EE) ps s σ H D I (h i pins)) (r1 i);rw[hK i]at this;exact this
 .exact fun γ M o M' hh W H σ D G R k i pins=>x2 (i,pins,EE) γ M o M' hh W H σ D G R k
section
variable{P:Program}{w:World}{K:Fg}{mg:Str->Option Value}{base:Heap}
noncomputable abbrev aBy(P:Program)(w:World)(K:Fg)(mg:Str->Option Value)(base:Heap)(N:List Str)(x:Str)(st:Stmt)(f:Addr)(cdv:Value)(A:Around)(outer:List Env)(s:Shared)(H:Hp)(E:XK):Unit->Cx:=fun _=>
 (kR (CX1 P w) P w K mg base N x (aH st) f cdv A outer s H E).wish (XS (kR (CX1 P w) P w K mg base N x (aH st) f cdv A outer s H E) fun _=>E)
theorem rP{N:List Str}{x:Str}{st:Stmt}{f:Addr}{cdv:Value}{A:Around}{outer:List Env}{s:Shared}{E:XK}(i:Unit):XOk (aBy P w K mg base N x st f cdv A outer s H E i) ((fun _ _=>E:Unit->St->XK) i):=XOk.of NZ _
theorem Fun.okXF{x qual:Str}{st:Stmt}{N ps:List Str}{k:Nat}{b:SFX}{f:Addr}{fd:FuncData}(Fu:Fun K x qual st f fd)(S:aS N ps (aH st))
 (hbody:∀(f:Addr)(cdv:Value)(A:Around)(outer:List Env)(s:Shared)(H:Hp)(E:XK),bS k (A.deeper (envOfC qual (aH st) s.heap.objs.size f cdv))->
  MLX K (aBy P w K mg base N qual st f cdv A outer s H E) (fun _ _=>E) (bF st) b):gP P w K mg base (CX1 P w) (k+1) f fd ps (spX K (fnX ps.length N.length b)):=by
 obtain⟨oc,od,kV,doc,pm,an,cdv,ct,osl,rfl,lk,hcd⟩:=Fu.ex
 have len:∀vs H Q E,spX K (fnX ps.length N.length b) vs H Q E->vs.length=ps.length:=fun vs H Q E h=>by
  obtain⟨xs,M,W,y,M',G,R,hf,_⟩:=h;by_cases hl:xs.length=ps.length
  .rw[<- Paired.len R];exact hl
  .unfold fnX at hf;rw[A5 hl]at hf;cases hf
 refine aFD lk hcd S len fun A outer s H vs Q E hr h=>?_;obtain⟨t,h1,h2⟩:=(hbody f cdv A outer s H E hr).ex;refine⟨t (),h1 (),?_⟩;obtain⟨xs,M,W,r,M',G,R,hf,kk⟩:=h
 have hl:xs.length=ps.length:=by
  by_cases hl:xs.length=ps.length
  .exact hl
  .unfold fnX at hf;rw[A5 hl]at hf;cases hf
 unfold fnX at hf;rw[A4 hl]at hf;obtain⟨⟨o,M1⟩,h3,hf⟩:=aG hf
 have hR:cF K W (xs.map some++List.replicate (N.length-xs.length) none) (start N vs):=by
  unfold start;rw[<- Paired.len R];exact Paired.app (bM.some R) (pU _)
 refine h2 () _ _ _ _ h3 W H _ _ G hR fun W1 H1 e1 G1=>?_;cases o with
 |xc γ e=>cases hf;exact fun σ c dx _ z=>kk W1 H1 e1 G1 c dx z
 |o o=>
  cases o with
  |rt x=>cases hf;exact fun v r=>kk W1 H1 e1 G1 v r
  |nx γ=>cases hf;exact fun σ r=>kk W1 H1 e1 G1 .non rfl
  |bk γ=>cases hf
  |ct γ=>cases hf
theorem Def.okX{x:Str}{st:Stmt}{N ps:List Str}{k:Nat}{b:SFX}(D:Def K mg x st)(S:aS N ps (aH st))
 (hb:∀(kV doc pm:Value)(an:Option Addr)(cdv ct:Value)(us:List Value),us.length=ps.length->bindArgs (PySem.W.fnOf x x (cR st) (bF st) (aH st) .none kV doc pm an cdv ct) ⟨us,[]⟩=pure (ps.zip us))
 (hbody:∀(f:Addr)(cdv:Value)(A:Around)(outer:List Env)(s:Shared)(H:Hp)(E:XK),bS k (A.deeper (envOfC x (aH st) s.heap.objs.size f cdv))->
  MLX K (aBy P w K mg base N x st f cdv A outer s H E) (fun _ _=>E) (bF st) b):jC P w K mg base (k+1) x ps (spX K (fnX ps.length N.length b)):=by
 obtain⟨f,fd,Fu,m⟩:=D.ex;exact⟨f,fd,Fu.okXF S hbody,m,Fu.kp,Fu.binds hb⟩
end
end
structure XC(K:Fg)(C:Addr):Prop where
 c:US K C
 ha:PySem.W.findIn K (.ref C) "__class__"=some (some (.builtin "object.__class__"))
 hn:PySem.W.specialIn K (.builtin "object.__class__") "__get__"=some (some (.builtin "getset_descriptor.__get__"))
 htk:PySem.W.takesIn K (.builtin "object.__class__")=some true
 hm:PySem.W.mroIn K C (.type "object")=some true
noncomputable def aGu(H:Hp):Option Addr->Prop
 |none=>True
 |some d=>∃us,H d=some (.xd us)
inductive ClV:V->Value->Prop
 |own (C:Addr):ClV (.ref C) (.ref C)
 |ty (T:String):ClV (.ty T) (.type T)
theorem ClV.is{v:V}{c u:Value}(h:ClV v c)(r:RelV v u):u=c:=by cases h<;>exact r
noncomputable def VW(K:Fg):List V->Hp->VK->Prop:=fun xs H Q=>∃v cv c b,xs=[v,cv]/\ClV cv c/\Q (.bl b) H /\
 ((v=.non/\PySem.W.kitOne K (.type "NoneType") c=some b)\/∃a C dx fr,v=.ref a/\H a=some (.ext (oM a (.ref C) dx fr))/\aGu H dx/\XC K C/\PySem.W.kitOne K (.ref C) c=some b)
section
variable{X:Cx}{K:Fg}
theorem YQ{pins:List (Addr×Obj)}{s:Shared}{a C:Addr}{dx:Option Addr}{fr:Bool}(I:Inv X pins σ H s)(h:H a=some (.ext (oM a (.ref C) dx fr)))(d:aGu H dx):∃ox od,PySem.W.InstAt s.heap a ox C od/\ox.dict=dx:=by
 obtain⟨⟨o,vs,h1,h2,h3,h4,_⟩,_⟩:=I.hok a _ h
 have no:PySem.W.notCls o=true:=by
  obtain⟨_,_,dt,_⟩:=o;cases h4;rfl
 cases dx with
 |none=>exact⟨o,none,⟨h1,h2,no,by rw[h3];exact True.intro⟩,h3⟩
 |some d'=>
  obtain⟨us,hd⟩:=d;obtain⟨od,q⟩:=(I.hok d' _ hd).there;exact⟨o,some od,⟨h1,h2,no,by rw[h3];exact q⟩,h3⟩
theorem TK:eD X (.builtin "isinstance") (VW X.K):=by
 intro pins s σ H vs us Q I r h;obtain⟨v,cv,c,b,rfl,rc,q,h⟩:=h;obtain⟨u,u',rfl,ru,ru'⟩:=vals2 r;cases rc.is ru';rcases h with⟨rfl,e⟩|⟨a,C,dx,fr,rfl,ha,d,xc,e⟩
 .cases (show u=Value.none from ru);exact PySem.W.kia_one PySem.W.kitx_none I.kIn True.intro e (fun z=>nomatch z) fun tk=>⟨.bl _,H,I.tok tk,rfl,q⟩
 .cases (show u=Value.ref a from ru);obtain⟨ox,od,J,_⟩:=YQ I ha d;exact PySem.W.kia_one (YD xc.c xc.ha xc.hn xc.htk xc.hm) I.kIn ⟨ox,od,J⟩ e (fun z=>nomatch z) fun tk=>⟨.bl _,H,I.tok tk,rfl,q⟩
theorem aHy(h:X.K=K):eD X (.builtin "isinstance") (VW K):=by subst h;exact TK
noncomputable def jS(tab:List (Str×Bool))(nn:Option Bool)(f:EF):EF:=fun γ M=>(f γ M).bind fun r=>match r.1 with
 |.c i=>(match r.2[i]? with
  |some (.exc _ nm _)=>(tab.lookup nm).bind fun b=>some (.d (.bool b),r.2)
  |_=>none)
 |.d .none=>nn.bind fun b=>some (.d (.bool b),r.2)
 |_=>none
theorem JQ.ok{dx:Option Addr}{fs:List (Str×CD)}(r:JQ K W dx fs)(s:iD W.F H):aGu H dx:=by
 cases dx with
 |none=>exact True.intro
 |some d=>obtain⟨_,us,h,_⟩:=r;exact⟨us,s _ _ h⟩
theorem Good.excAt{i:Nat}{fr:Bool}{nm:Str}{fs:List (Str×CD)}(G:Good K W M H)(h:M[i]?=some (.exc fr nm fs)):∃dx,H (W.α i)=some (.ext (oM (W.α i) (.ref (aR K nm)) dx fr))/\JQ K W dx fs:=by
 obtain⟨_,o,h2,h3⟩:=G.cs i _ h (by intro z;cases z);cases o with
 |ext φ=>
  obtain⟨dx,rfl,r⟩:=h3;exact⟨dx,h2,r⟩
 |_=>exact False.elim h3
theorem aDa{tab:List (Str×Bool)}{nn:Option Bool}{ta:TE}{f:EF}{cv:V}{c:Value}(hc:ClV cv c)(ht:∀p∈tab,XC K (aR K p.1)/\PySem.W.kitOne K (.ref (aR K p.1)) c=some p.2)(hn:∀b,nn=some b->PySem.W.kitOne K (.type "NoneType") c=some b)
 (a:SE K ta f):SE K (tCB (VW K) (iZ ta (iZ (tC cv) FA))) (jS tab nn f):=by
 intro γ M x M' hh W H σ Q G R k;obtain⟨⟨y,M1⟩,h1,hh⟩:=aG hh;refine a _ _ _ _ h1 W H σ _ G R fun v W1 H1 e1 G1 r1=>?_;cases y with
 |t _=>cases hh
 |f _=>cases hh
 |c i=>
  dsimp only at hh;cases e:M1[i]? with
  |none=>rw[e]at hh;cases hh
  |some cl=>
   rw[e]at hh;cases cl with
   |exc fr nm fs=>
    obtain⟨b,h2,hh⟩:=aG (show(tab.lookup nm).bind _=_ from hh);cases hh;obtain⟨h3,h4⟩:=ht (nm,b) (E4 h2);obtain⟨dx,h5,h6⟩:=G1.excAt e;exact⟨v,cv,c,b,rfl,hc,k _ W1 H1 e1 G1 rfl,.inr ⟨_,_,dx,fr,r1.2,h5,h6.ok G1.fh,h3,h4⟩⟩
   |_=>cases hh
 |d y=>
  cases y with
  |none=>
   obtain⟨b,h2,hh⟩:=aG (show nn.bind _=_ from hh);cases hh;exact⟨v,cv,c,b,rfl,hc,k _ W1 H1 e1 G1 rfl,.inl ⟨r1,hn b h2⟩⟩
  |_=>cases hh
end
section
variable{ι:Type}{K:Fg}{X:ι->Cx}{a:Expr}{f:EF}{pos:Pos}
theorem lY{y:Str}{C:Addr}(hm:∀i,(X i).mg y=some (.ref C))(hg:∀i,Gl (X i) y:=by intro _;rfl)(hd:(y==("__debug__":Str))=false:=by decide):∀i p',PE (X i) (.Name y p') (tC (.ref C)):=fun i _=>PX (hg i) (hm i) rfl hd
theorem aDN{y:Str}{T:String}(hm:∀i,(X i).mg y=none)(hb:bootBuiltins y=some (.type T))(hg:∀i,Gl (X i) y:=by intro _;rfl)(hn:y≠"__name__":=by decide)(hd:(y==("__debug__":Str))=false:=by decide):∀i p',PE (X i) (.Name y p') (tC (.ty T)):=fun i _=>uD (v:=.ty T) (hg i) (hm i) hb rfl hn hd
theorem fY{y:Str}{p p':Pos}{tab:List (Str×Bool)}{nn:Option Bool}{cv:V}{c:Value}(hK:∀i,(X i).K=K)(hc:ClV cv c)(hy:∀i p',PE (X i) (.Name y p') (tC cv))(ht:∀p∈tab,XC K (aR K p.1)/\PySem.W.kitOne K (.ref (aR K p.1)) c=some p.2)(hn:∀b,nn=some b->PySem.W.kitOne K (.type "NoneType") c=some b)
 (x:ME K X a f) (hs:BX a [.Name y p']) (hm:∀i,(X i).mg "isinstance"=none) (hg:∀i,Gl (X i) "isinstance":=by intro _;rfl):ME K X (.Call (.Name "isinstance" p) [a,.Name y p'] [] pos) (jS tab nn f):=by
 obtain⟨t,x1,x2⟩:=x.ex;exact⟨_,fun i=>pW (aHy (hK i)) (hg i) (hm i) boot_isinstance (dU (x1 i) (dU (hy i _) pO aX) (hs _)) (by decide) (by decide) (hs _) (kK aX rK),aDa hc ht hn x2⟩
end
noncomputable def wB(h:FX)(f:AF):EF:=fun γ M=>(f γ M).bind fun r=>(h r.1 r.2).bind fun q=>match q.1 with
 |.v x=>some (x,q.2)
 |.x _=>none
noncomputable def noX:St->XK:=fun _ _ _ _=>False
section
variable{X:Cx}{K:Fg}
theorem WN{k:Nat}{x:Str}{ps:List Str}{sp:Sp}{p pos:Pos}{e:Expr}{es:List Expr}{t:TA}(C:jC X.prog X.w X.K X.mg X.base k x ps sp)(hr:bS k X.A)(ha:PA X (e::es) t)(hg:Gl X x)
 (hdb:(x==("__debug__":Str))=false) (he:starEach (e::es) X.env=(false,eval e X.env)::starEach es X.env) (hpl:(backTo pos (starEach es X.env)).any (·.1)=false):
 PE X (.Call (.Name x p) (e::es) [] pos) (GC sp noX t):=by
 obtain⟨f,fd,F,m,kp,b⟩:=C.ex
 exact QM (dvs:=[]) (E:=noX []) F hr hg m kp b .nil (fun _ _ _ _ _ _ _ h=>by obtain⟨_,_,_,_,_,_,_,_,_,_,_,_,_,z⟩:=h;exact z.elim) ha hdb he hpl |> fun h pins s σ H Q I hq=>h pins s σ H Q I (by
  show t σ H fun vs H1=>sp (vs++[]) H1 Q (noX []);simpa only[List.append_nil]using hq)
theorem RV{h:FX}{tA:TA}{fa:AF}(a:SA K tA fa):SE K (GC (spX K h) noX tA) (wB h fa):=by
 intro γ M x M' hh W H σ Q G R k;obtain⟨⟨xs,M1⟩,h1,hh⟩:=aG hh;obtain⟨⟨r,M2⟩,h2,hh⟩:=aG hh;refine a _ _ _ _ h1 W H σ _ G R fun vs W1 H1 e1 G1 r1=>?_;refine⟨xs,M1,W1,r,M2,G1,r1,h2,fun W2 H2 e2 G2=>?_⟩;cases r with
 |x e=>cases hh
 |v y=>cases hh;exact fun v rv=>k v W2 H2 (e1.trans e2) G2 rv
end
theorem vZ{ι:Type}{X:ι->Cx}{e:Expr}{es:List Expr}{fa:AF}{pos:Pos}{k:Nat}{x:Str}{ps:List Str}{F:FX}{p:Pos}(C:∀i,jC (X i).prog (X i).w (X i).K (X i).mg (X i).base k x ps (spX K F))(hr:∀i,bS k (X i).A)(y:MA K X (e::es) fa)(hg:∀i,Gl (X i) x:=by intro _;rfl)(hd:(x==("__debug__":Str))=false:=by decide):
 ME K X (.Call (.Name x p) (e::es) [] pos) (wB F fa):=by
 obtain⟨u,y1,y2⟩:=y.ex;exact⟨_,fun i=>WN (C i) (hr i) (y1 i) (hg i) hd (y.st.1 _) (y.st.2.plain _ _),RV y2⟩
theorem oG:bootBuiltins "ValueError"=some (.type "ValueError"):=by decide +kernel
section
variable{K:Fg}{cv:Value}{a:Str}{b:Bool}{l:List (Str×Bool)}
theorem KJ:∀p∈([]:List (Str×Bool)),PySem.W.exmOne K (.ref (aR K p.1)) cv=some p.2:=fun _ h=>absurd h (by simp)
theorem jI(h:PySem.W.exmOne K (.ref (aR K a)) cv=some b)(r:∀p∈l,PySem.W.exmOne K (.ref (aR K p.1)) cv=some p.2):∀p∈(a,b)::l,PySem.W.exmOne K (.ref (aR K p.1)) cv=some p.2:=fun p hp=>by
 rcases List.mem_cons.mp hp with rfl|z
 .exact h
 .exact r p z
theorem gA{b:Bool}(h:PySem.W.kitOne K (.type "NoneType") cv=some b):∀c,some b=some c->PySem.W.kitOne K (.type "NoneType") cv=some c:=fun c e=>by cases e;exact h
theorem nD{nm:Str}{C:Addr}(h:PySem.W.nsIn K mainGlobals nm=some (some (.ref C))):aR K nm=C:=by unfold aR;rw[h]
end
mutual
noncomputable def snap:Nat->Sto->CD->Option PyData
 |_,_,.d x=>some x
 |0,_,.c _=>none
 |n+1,M,.c i=>match M[i]? with
  |some (.lst xs)=>(cL n M xs).bind fun ds=>some (.list ds)
  |_=>none
 |_,_,.f _=>none
 |0,_,.t _=>none
 |n+1,M,.t xs=>(cL n M (xs.map cdA)).bind fun ds=>some (.tuple ds)
noncomputable def cL:Nat->Sto->List CD->Option (List PyData)
 |_,_,[]=>some []
 |n,M,x::xs=>(snap n M x).bind fun d=>(cL n M xs).bind fun ds=>some (d::ds)
end
section
variable{K:Fg}{W:Wd}{M:Sto}{H:Hp}
theorem Good.lstAt'(G:Good K W M H){i:Nat}{xs:List CD}(h:M[i]?=some (.lst xs)):∃vs,H (W.α i)=some (.lst vs)/\bM K W xs vs:=by
 obtain⟨_,o,h2,h3⟩:=G.cs i _ h (by intro z;cases z);cases o with
 |lst vs=>exact⟨vs,h2,h3⟩
 |_=>exact False.elim h3
mutual
theorem mL(G:Good K W M H):∀(n:Nat)(x:CD)(d:PyData)(v:V),snap n M x=some d->bP K W x v->Rep K H d v
 |0,.d x=>fun d v h r=>by unfold snap at h;cases h;exact Rep.same G.fh _ _ r
 |n+1,.d x=>fun d v h r=>by unfold snap at h;cases h;exact Rep.same G.fh _ _ r
 |0,.c i=>fun d v h r=>by unfold snap at h;cases h
 |n+1,.c i=>fun d v h r=>by
  unfold snap at h;cases e:M[i]? with
  |none=>rw[e]at h;cases h
  |some c=>
   rw[e]at h;cases c with
   |lst xs=>
    obtain⟨ds,h1,h⟩:=aG (show(cL n M xs).bind _=_ from h);cases h;obtain⟨vs,h2,h3⟩:=G.lstAt' e;exact⟨W.α i,vs,r.2,SqL.of h2,vY G n xs ds vs h1 h3⟩
   |_=>cases h
 |0,.f xs=>fun d v h r=>by unfold snap at h;cases h
 |n+1,.f xs=>fun d v h r=>by unfold snap at h;cases h
 |0,.t xs=>fun d v h r=>by unfold snap at h;cases h
 |n+1,.t xs=>fun d v h r=>by
  unfold snap at h;obtain⟨ds,h1,h⟩:=aG h;cases h;obtain⟨a,vs,rfl,h2,h3⟩:=r;exact⟨a,vs,rfl,SqT.of (G.fh _ _ h2),vY G n _ ds vs h1 (PK h3)⟩
theorem vY(G:Good K W M H):∀(n:Nat)(xs:List CD)(ds:List PyData)(vs:List V),cL n M xs=some ds->bM K W xs vs->aK K H ds vs
 |_,[]=>fun ds vs h r=>by
  unfold cL at h;cases h;cases r;rfl
 |n,x::xs=>fun ds vs h r=>by
  unfold cL at h;obtain⟨d,h1,h⟩:=aG h;obtain⟨es,h2,h⟩:=aG h;cases h;cases r with
  |@cons _ v _ vs' r1 r2=>exact⟨v,vs',rfl,mL G n x d v h1 r1,vY G n xs es vs' h2 r2⟩
end
end
noncomputable def kF:FN:=fun xs M=>match xs with
 |[x]=>(snap 5 M x).bind fun d=>if rA d=true then some (.d (.str d.shown),M)else none
 |_=>none
theorem hZ{n:Nat}{x:PyData}:snap n M (.d x)=some x:=by cases n<;>simp only[snap]
theorem FP{x:PyData}:kF [.d x] M=QG [.d x] M:=by unfold kF QG;dsimp only;rw[hZ];rfl
theorem XH:PN K (aDU K) kF:=by
 intro xs M z M' h W H vs Q G r k;unfold kF at h;split at h
 .rename_i x;obtain⟨d,h1,h⟩:=aG h;by_cases hs:rA d=true
  .rw[A4 hs]at h;cases h;rcases r with _|⟨r1,_|_⟩;have hs':=hs;unfold rA at hs;rw[B3,B3]at hs;exact⟨_,d,rfl,mL G 5 x d _ h1 r1,hs.1.1,C2 hs.1.2,C2 hs.2,k _ W H (.refl _) G rfl⟩
  .rw[A5 hs]at h;cases h
 .cases h
theorem mX{ι:Type}{X:ι->Cx}(hK:∀i,(X i).K=K)(hg:∀i,(X i).A.guards=some [])(hu:∀i,(X i).A.units+200<cLine):QN K X (.builtin "repr") kF:=⟨_,fun i=>aHw (hK i) (hg i) (hu i),XH⟩
open PySem PySem.Spec PyProof.Rows PySem.Builtin PySem.Builtin.ObjectAttr
noncomputable def UN:List Value->Bool
 |.ref _::r=>UN r
 |l=>l==bmV
theorem zP(self:Value):∀{l:List Value},UN l=true->refuseLoop self "__setattr__" l=pure ()/\l.contains (.type "object")=true/\l.isEmpty=false
 |[]=>fun e=>absurd e (by decide)
 |.ref c::r=>fun e=>by
  obtain⟨h1,h2,_⟩:=zP self (l:=r) e;exact⟨by rw[refuseLoop_ref];exact h1,by rw[List.contains_cons,h2,Bool.or_true],rfl⟩
 |.none::r=>fun e=>absurd (beq_iff_eq.mp (show((.none::r:List Value)==bmV)=true from e)) (by intro z;cases z)
 |.bool b::r=>fun e=>absurd (beq_iff_eq.mp (show((.bool b::r:List Value)==bmV)=true from e)) (by intro z;cases z)
 |.int b t::r=>fun e=>absurd (beq_iff_eq.mp (show((.int b t::r:List Value)==bmV)=true from e)) (by intro z;cases z)
 |.type n::r=>fun e=>by
  have q:(.type n::r:List Value)=bmV:=beq_iff_eq.mp (show((.type n::r:List Value)==bmV)=true from e);rw[q];exact⟨PySem.F.store_ValueError.passes self,by decide,rfl⟩
 |v::r=>fun e=>by
  cases v with
  |ref c=>
   obtain⟨h1,h2,_⟩:=zP self (l:=r) e;exact⟨by rw[refuseLoop_ref];exact h1,by rw[List.contains_cons,h2,Bool.or_true],rfl⟩
  |type n=>
   have q:(.type n::r:List Value)=bmV:=beq_iff_eq.mp (show((.type n::r:List Value)==bmV)=true from e);rw[q];exact⟨PySem.F.store_ValueError.passes self,by decide,rfl⟩
  |_=>exact absurd (beq_iff_eq.mp e) (by intro z;cases z)
noncomputable def aAx(K:Fg)(C:Addr):Bool:=(PySem.W.clsIn K C).any fun cd=>UN cd.mro
section
variable{prog:Program}{w:World}{A:Around}{E:Value->Shared->Prop}{s:Shared}{K:Fg}{x C:Addr}{ox:Obj}{name:Str}{v:Value}
theorem aBG{vs:Array Value}{Q:Unit->Shared->Prop}(X:K.In s.heap)(I:PySem.W.InstAt s.heap x ox C none)(hv:ox.data=.fields vs)(hs:PySem.W.findIn K (.ref C) "__setattr__"=some (some (.builtin "object.__setattr__")))(hp:aAx K C=true)(ht:PySem.W.takerIn K C name=some none)(hh:PySem.W.hasDictIn K C=true)
 (h:∀h',h'.get? x=some { ox with dict:=some s.heap.objs.size }->h'.Ns1 s.heap.objs.size (fun y=>if y=name then some v else none)->(∀b o,b≠x->s.heap.get? b=some o->h'.get? b=some o)->Q () { s with heap:=h',toks:=s.toks+2 }):
 wpAny (model prog w) A (setAttr (.ref x) name v) Q E s:=by
 refine PySem.W.set_plain X I hs ?_;have SF:=PySem.F.store_object;obtain⟨cd,hc,ho⟩:=PySem.W.any_some hp;obtain⟨o1,o2,o3⟩:=zP (.ref x) ho;have sub:PySem.W.Looks (model prog w) s.heap (isInstance (.ref x) (.type "object")) true:=I.type.andThen (PySem.W.looks_mroIn X (by unfold PySem.W.mroIn;rw[hc,A1,A5 (by rw[o3];decide),o2]));refine codeAny_call_builtin SF.slot.plain SF.entry (@PySem.W.check_slot (model prog w) _ _ { s with toks:=s.toks+1 } "object.__setattr__" "object" "__setattr__" (.ref x) [.str name s.toks,v] [] _ SF.kind SF.split sub (SF.args (.ref x) (.str name s.toks) v) ?_);obtain⟨attr,ha,hr⟩:=Option.bind_eq_some_iff.mp ht;have hm:PySem.W.Looks (model prog w) s.heap (mroOf (.ref C)) cd.mro:=(PySem.W.looks_clsIn X hc).andThen .now
 have L3:PySem.W.Looks (model prog w) s.heap (storeTaker? attr) none:=by
  cases attr with
  |none=>cases hr;exact .now
  |some a=>
   obtain⟨b,hb,e⟩:=Option.map_eq_some_iff.mp hr;refine(PySem.W.looks_takesIn X hb).andThen ?_;cases b
   .exact .now
   .cases e
 rw[PySem.W.osa_eq,refuse_eq];have k0:∀b o,s.heap.get? b=some o->({ s with toks:=s.toks+1 }:Shared).heap.get? b=some o:=fun _ _ z=>z;refine A0 (A0 (J9 (s:={ s with toks:=s.toks+1 }) I.type (A0 (J9 (s:={ s with toks:=s.toks+1 }) hm ?_))));rw[o1];refine A3 (A0 (J9 (s:={ s with toks:=s.toks+1 }) I.type (A0 (J9 (s:={ s with toks:=s.toks+1 }) (O8 X ha) (A0 (J9 (s:={ s with toks:=s.toks+1 }) L3 ?_))))));obtain⟨cd',hc',hd'⟩:=PySem.W.any_some hh
 have dn:ox.dict=none:=by
  have:=I.dict;cases q:ox.dict with
  |none=>rfl
  |some d=>rw[q]at this;exact this.elim
 have hx:=I.at_;have hcl:=I.cls;obtain⟨oc,odi,oda,osl⟩:=ox;dsimp only at hcl dn hv;subst hcl dn hv;refine A0 (A3 (A0 (A0 (wpAny_loadPart hx (A0 (J9 (s:={ s with toks:=s.toks+1 }) (PySem.W.looks_clsIn X hc') ?_))))));rw[hd'];rw[A5 (by decide)];show wpAny _ _ (if (!true || !typeHasDict (.ref C))=true then pure none else _) _ _ _;rw[A5 (by simp[typeHasDict])];have x1:(s.heap.push { cls:=.type "dict",data:=.dict #[] }).get? x=some ⟨.ref C,none,.fields vs,osl⟩:=A2 _ hx;have xs:x≠s.heap.objs.size:=B6 (A8 hx);refine A0 (wpAny_alloc' ?_);refine A0 (wpAny_update' x1 ?_);refine A3 ?_;generalize hg:(s.heap.push { cls:=.type "dict",data:=.dict #[] }).update x (fun o=>{ cls:=o.cls,dict:=some s.heap.objs.size,data:=o.data,slots:=o.slots })=g1
 have gd:g1.get? s.heap.objs.size=some { cls:=.type "dict",data:=.dict #[] }:=by
  rw[<- hg];exact(D9 _ _ xs).trans (B0 s.heap rfl)
 have gn:g1.Ns s.heap.objs.size (fun _=>none):=⟨_,#[],_,gd,rfl,fun e he=>absurd he (by simp),fun _=>rfl⟩;show wpAny _ _ (storeInDict s.heap.objs.size (.str name s.toks) name v) _ _ _;unfold storeInDict newKeyGuard;refine A0 (A3 (A0 (wpAny_nsSet1 (Heap.Ns1.of_empty gn) fun h' hn' hs'=>?_)));obtain⟨oD,esD,epD,hoD,hdD,hcD⟩:=hn'.count (PySem.Within.cons name v PySem.Within.nil);refine A0 (wpAny_lookBehind hoD (by rw[hdD];exact pastItsLine_dict (D3 hcD (by rw[C7,L7,D5];omega))) ?_);refine A3 ?_;refine h h' ?_ hn' fun b o hb q=>?_
 .rw[hs'.2 x xs,<- hg];exact E9 _ x1 rfl
 .rw[hs'.2 b (B6 (A8 q)),<- hg,D9 _ _ (F0 hb)];exact A2 _ q
end
end L2
namespace L2
variable{H:Hp}{W:Wd}{M:Sto}
open PySem PySem.Spec PyProof.Rows
noncomputable def FZ(K:Fg)(C:Addr):Bool:=match K.lookup C with
 |some ⟨.type "type",_,.cls cd,sl⟩=>(match cd.mro,sl.toList with
  |.ref C'::bm,[_,_,_,_,some (.builtin n),_]=>C'==C&&n=="ValueError.__new__"&&!cd.hasDel&&PySem.W.tailIn K bmV bm
  |_,_=>false)
 |_=>false
theorem yR{K:Fg}{h:Heap}{C:Addr}(X:K.In h)(q:FZ K C=true):
 ∃bm N nm qn bs hd sn sub ab col dd k0 k1 k2 k3 k5,h.get? C=some (excClassObj nm qn C N bs bm hd sn sub ab col dd k0 k1 k2 k3 k5 "ValueError.__new__")/\OwnTail h bmV bm:=by
 unfold FZ at q;split at q
 case h_2=>cases q
 case h_1 dd cd sl lk=>
  split at q
  case h_2=>cases q
  case h_1 C' bm k0 k1 k2 k3 n k5 hm hs=>
   simp only[Bool.and_eq_true,beq_iff_eq,Bool.not_eq_true']at q;obtain⟨⟨⟨q1,q2⟩,q3⟩,q4⟩:=q;subst q1 q2;cases cd with
   |mk nm bs mro ns qn hd sn sub ab col del=>
    cases hm;cases q3
    have es:sl=#[k0,k1,k2,k3,some (.builtin "ValueError.__new__"),k5]:=by
     cases sl with
     |mk l=>exact O6 Array.mk hs
    cases es;exact⟨bm,ns,nm,qn,bs,hd,sn,sub,ab,col,dd,k0,k1,k2,k3,k5,X _ _ lk,PySem.W.tail_of_in X q4⟩
section
variable{prog:Program}{w:World}{A:Around}{E:Value->Shared->Prop}{K:Fg}{C f:Addr}
theorem aAZ{h:Heap}{g:Array GenState}{d:Drawn}{t:Nat}{os:OsState}{us:List Value}{Q:Fin->Shared->Prop}(X:K.In h)(q:FZ K C=true)(hi:PySem.W.findIn K (.ref C) "__init__"=some (some (.ref f)))(hf:PySem.W.typeIn K (.ref f)=some (.type "function"))(hl:us.length<=sizeLine)
 (hq:∀h' e,Heap.MadeExcOf h h' e (.ref C) us->wpAny (model prog w) A (call (.ref f) (.ref e::us)) (fun r s'=>r=.none/\Q (.done (.ret (.ref e))) s') E ⟨h',g,d,t,os⟩):
 wpAny (model prog w) A (Builtin.«type.__call__» ⟨.ref C::us,[]⟩) Q E ⟨h,g,d,t,os⟩:=by
 obtain⟨bm,N,nm,qn,bs,hd,sn,sub,ab,col,dd,k0,k1,k2,k3,k5,hC,T⟩:=yR X q;have F:=PySem.F.excBase_ValueError
 repeat (first|(with_reducible refine wpAny_loadPart_at hC ?_)|(with_reducible refine wpAny_madeBy_exc hC ?_)|wp_step)
 refine codeAny_call_builtin_code (Code.quiet_builtin _ F.quiet) (wpAny_check_new_subT F T hC (codeAny_exc_new_subT F T hC ?_ hl));show wpAny _ _ _ _ _ _;have kp:∀b o,h.get? b=some o->((h.push { cls:=.type "tuple",data:=.seq us.toArray }).push { cls:=.ref C,data:=.fields #[.ref h.objs.size,.none,.none,.none,.bool false,.none] }).get? b=some o:=fun b o z=>A2 _ (A2 _ z)
 have he:((h.push { cls:=.type "tuple",data:=.seq us.toArray }).push { cls:=.ref C,data:=.fields #[.ref h.objs.size,.none,.none,.none,.bool false,.none] }).get? (h.objs.size+1)=some { cls:=.ref C,data:=.fields #[.ref h.objs.size,.none,.none,.none,.bool false,.none] }:=by
  have:=B0 (h.push { cls:=.type "tuple",data:=.seq us.toArray }) (o:={ cls:=.ref C,data:=.fields #[.ref h.objs.size,.none,.none,.none,.bool false,.none] }) rfl
  rwa [O2]at this
 have ht:((h.push { cls:=.type "tuple",data:=.seq us.toArray }).push { cls:=.ref C,data:=.fields #[.ref h.objs.size,.none,.none,.none,.bool false,.none] }).get? h.objs.size=some { cls:=.type "tuple",data:=.seq us.toArray }:=A2 _ (B0 h rfl);have cC:(Value.ref C::bm).contains (.ref C)=true:=by simp
 have hC1:=kp _ _ hC;have L1:=O8 (M:=model prog w) (X.keeps kp) hi;have L2:=PySem.W.bind_fn (M:=model prog w) (X.keeps kp) (.ref (h.objs.size+1)) hf;unfold isInstance
 repeat (first|(with_reducible refine wpAny_loadPart_at he ?_)|(with_reducible refine wpAny_isSubtype_exc hC1 ?_;rw[cC])|wp_step)
 show wpAny _ _ (typeLookup (.ref C) _) _ _ _;refine L1.at ?_;refine D4 (A0 (L2.at ?_));refine A0 (D0 (hq _ (h.objs.size+1) ⟨kp,S6 (Nat.le_succ _),h.objs.size,he,S6 (A7 _),ht⟩) (fun r s' z=>?_) fun _ _ z=>z);obtain⟨rfl,z⟩:=z
 wp_walk
 exact z
theorem RG{s:Shared}{us:List Value}{Q:Value->Shared->Prop}(X:K.In s.heap)(q:FZ K C=true)(hi:PySem.W.findIn K (.ref C) "__init__"=some (some (.ref f)))(hf:PySem.W.typeIn K (.ref f)=some (.type "function"))(hl:us.length<=sizeLine)
 (hq:∀h' e,Heap.MadeExcOf s.heap h' e (.ref C) us->wpAny (model prog w) (A.under (.builtin "type.__call__" ⟨.ref C::us,[]⟩)) (call (.ref f) (.ref e::us)) (fun r s'=>r=.none/\Q (.ref e) s') E { s with heap:=h' }):
 wpAny (model prog w) A (call (.ref C) us) Q E s:=by
 obtain⟨bm,N,nm,qn,bs,hd,sn,sub,ab,col,dd,k0,k1,k2,k3,k5,hC,T⟩:=yR X q;obtain⟨h,g,d,t,os⟩:=s;have f1:=tc_lookup;have f2:=tc_bind (.ref C);have hT:(⟨h,g,d,t,os⟩:Shared).TypeIs (.ref C) "type":=⟨_,hC,rfl⟩;refine A0b (codeAny_of_tree ?_);show wpAny _ _ (callAny (.ref C) ⟨us,[]⟩) _ _ _
 repeat (any_goals (first|assumption|(with_reducible refine wpAny_loadPart_at hC ?_)|wp_step))
 refine⟨rfl,?_⟩;refine codeAny_call_builtin_at (Code.quiet_builtin _ (by decide +kernel)) entry_typeCall (wpAny_check_type_call_sub hC (aAZ (f:=f) X q hi hf hl fun h' e mk=>?_));exact hq h' e mk
end
noncomputable def unt(H:Hp)(e:Addr):Hp:=fun b=>if b=e then none else H b
theorem nM{a b:Addr}(h:b≠a):unt H a b=H b:=by unfold unt;rw[A5 h]
theorem yK{a:Addr}:unt H a a=none:=by unfold unt;rw[A4 rfl]
section
variable{X:Cx}{pins:List (Addr×Obj)}{σ:St}{H:Hp}{s:Shared}
theorem Inv.untrack{e:Addr}{φ:Heap->Prop}(I:Inv X pins σ H s)(he:H e=some (.ext φ)):Inv X pins σ (unt H e) s:=by
 have up:∀b,H b=none->unt H e b=none:=fun b q=>by
  by_cases z:b=e
  .rw[z,yK]
  .rw[nM z];exact q
 have ne:∀b u,H b=some u->(∀ψ,u≠.ext ψ)->b≠e:=fun b u q n z=>by
  rw[z,he]at q;cases q;exact n φ rfl
 refine⟨I.ok,I.os,I.bare,⟨I.base.keep,I.base.slot,fun b o q n hx=>up b (I.base.free b o q n hx),I.base.there,fun b xs q=>?_,fun b o u q=>?_,fun b ps q=>?_⟩,I.loc,I.cell,up _ I.free,fun x c q=>up _ (I.freeC x c q),fun p h=>?_,fun b u q=>?_,I.len⟩
 .have:=I.base.tups b xs q;rw[nM (ne _ _ this fun _ z=>by cases z)];exact this
 .have:=I.base.frzs b o u q;rw[nM (ne _ _ this fun _ z=>by cases z)];exact this
 .obtain⟨more,this⟩:=I.base.tbls b ps q;exact⟨more,by rw[nM (ne _ _ this fun _ z=>by cases z)];exact this⟩
 .obtain⟨q1,q2,q3⟩:=I.pin p h;exact⟨q1,up _ q2,q3⟩
 .have hb:b≠e:=fun z=>by rw[z,yK]at q;cases q
  rw[nM hb]at q;exact(I.hok b u q).stay (fun _ _ _ z=>z) (fun c z=>by rw[nM (ne _ _ z fun _ w=>by cases w)];exact z) fun c xs z=>by rw[nM (ne _ _ z fun _ w=>by cases w)];exact z
structure ZV(K:Fg)(C:Addr)(f:Str):Prop where
 sa:PySem.W.findIn K (.ref C) "__setattr__"=some (some (.builtin "object.__setattr__"))
 ov:aAx K C=true
 tk:PySem.W.takerIn K C f=some none
 hd:PySem.W.hasDictIn K C=true
 na:PySem.W.findIn K (.ref C) f=some none
theorem aBI{A:Around}{E:Value->Shared->Prop}{a C:Addr}{f:Str}{y:V}{u:Value}{Q:Unit->Shared->Prop}(I:Inv X pins σ H s)(e:H a=some (.ext (oM a (.ref C) none true)))(c:ZV X.K C f)(ry:RelV y u)
 (h:∀d s',H d=none->d≠a->Inv X pins σ (upd (upd H d (.xd [(f,y)])) a (.ext (oM a (.ref C) (some d) true))) s'->Q () s'):wpAny (model X.prog X.w) A (setAttr (.ref a) f u) Q E s:=by
 obtain⟨⟨o,vs,h1,h2,h3,h4,h5⟩,_⟩:=I.hok a _ e;obtain⟨z1,z2⟩:=h5 rfl
 have no:PySem.W.notCls o=true:=by
  obtain⟨_,_,dt,_⟩:=o;cases h4;rfl
 have hn:H s.heap.objs.size=none:=I.hok.fresh (A7 _);have hne:s.heap.objs.size≠a:=F9 (A8 h1);refine aBG I.kIn ⟨h1,h2,no,by rw[h3];exact True.intro⟩ h4 c.sa c.ov c.tk c.hd fun h' q1 q2 q3=>h s.heap.objs.size _ hn hne ?_;have hda:∀b w,H b=some w->b≠s.heap.objs.size:=fun b w z=>aO z hn;refine I.un (t':=s.toks+2) ⟨fun b ob z n _ _=>?_,fun b ob z n _ _=>?_,fun b ob z n _=>?_,fun b ob z _=>?_,fun b xs z=>?_,fun b ob w z=>?_,fun b ps z=>?_⟩ fun b w z=>?_
 .exact q3 b ob (fun w=>by rw[w,e]at n;cases n) z
 .exact⟨ob.slots,q3 b ob (fun w=>by rw[w,e]at n;cases n) z⟩
 .rw[aJ (fun w=>by rw[w,e]at n;cases n),aJ (B6 (A8 z))];exact n
 .by_cases w:b=a
  .rw[w];exact⟨_,q1⟩
  .exact⟨ob,q3 b ob w z⟩
 .rw[aJ (wD z e (by intro w;cases w)),aJ (hda _ _ z)];exact z
 .rw[aJ (wD z e (by intro w;cases w)),aJ (hda _ _ z)];exact z
 .exact⟨#[],by rw[aJ (wD z e (by intro w;cases w)),aJ (hda _ _ z),z];simp⟩
 .by_cases hb:b=a
  .subst hb;rw[aP]at z;cases z;exact⟨⟨_,vs,q1,h2,rfl,h4,h5⟩,⟨_,q1⟩,fun g1 g2 ⟨o',ws,k1,k2⟩ kk=>⟨o',ws,kk o' k1,k2⟩⟩
  .rw[aJ hb]at z;by_cases hd:b=s.heap.objs.size
   .subst hd;rw[aP]at z;cases z;refine⟨_,q2,fun g=>?_⟩;show nJ (List.lookup g [(f,y)]) (if g=f then some u else none);by_cases gf:g=f
    .rw[A4 gf,gf,C8,beq_self_eq_true];exact ry
    .rw[A5 gf,C8,beq_eq_false_iff_ne.mpr gf];exact True.intro
   .rw[aJ hd]at z;refine(I.hok b w z).stay (fun c v hc r=>q3 c v ?_ r) (fun c r=>?_) fun c xs r=>?_
    .rcases hc with rfl|hc
     .exact hb
     .exact wD hc e (by intro w;cases w)
    .rw[aJ (wD r e (by intro w;cases w)),aJ (hda _ _ r)];exact r
    .rw[aJ (wD r e (by intro w;cases w)),aJ (hda _ _ r)];exact r
theorem Inv.newX{C e:Addr}{us:List Value}{h':Heap}(I:Inv X pins σ H s)(mk:Heap.MadeExcOf s.heap h' e (.ref C) us):H e=none/\Inv X pins σ (upd H e (.ext (oM e (.ref C) none true))) { s with heap:=h' }:=by
 have hn:H e=none:=by
  cases z:H e with
  |none=>rfl
  |some u=>
   obtain⟨o,z'⟩:=(I.hok e u z).there;rw[mk.new]at z';cases z'
 obtain⟨t,he,_,_⟩:=mk.there;refine⟨hn,I.un (t':=s.toks) ⟨fun b o q _ _ _=>mk.keeps b o q,fun b o q _ _ _=>⟨o.slots,mk.keeps b o q⟩,fun b o q n _=>?_,fun b o q _=>⟨o,mk.keeps b o q⟩,fun b xs q=>?_,fun b o u q=>?_,fun b ps q=>?_⟩ fun b u q=>?_⟩
 .rw[aJ (fun z=>by rw[z,mk.new]at q;cases q)];exact n
 .rw[aJ (aO q hn)];exact q
 .rw[aJ (aO q hn)];exact q
 .exact⟨#[],by rw[aJ (aO q hn),q];simp⟩
 .by_cases hb:b=e
  .subst hb;rw[aP]at q;cases q;exact⟨⟨_,_,he,rfl,rfl,rfl,fun _=>⟨by show 1<6;decide,rfl⟩⟩,⟨_,he⟩,fun g1 g2 ⟨o',ws,k1,k2⟩ kk=>⟨o',ws,kk o' k1,k2⟩⟩
  .rw[aJ hb]at q;exact(I.hok b u q).stay (fun c v _ r=>mk.keeps c v r) (fun c r=>by rw[aJ (aO r hn)];exact r) fun c xs r=>by rw[aJ (aO r hn)];exact r
end
section
variable{X:Cx}{C f:Addr}{x:Str}{p pos:Pos}{k:Nat}{fd:FuncData}{ps:List Str}{sp:Sp}{e:Expr}{es:List Expr}{t:TA}
structure MkX(K:Fg)(C f:Addr):Prop where
 ex:FZ K C=true
 init:PySem.W.findIn K (.ref C) "__init__"=some (some (.ref f))
 fn:PySem.W.isFn K (.ref f)=true
 kp:PySem.W.keepIn K (.ref C)=true
noncomputable def MM(C:Addr)(sp:Sp)(t:TA):TE:=fun σ H Q=>t σ H fun vs H1=>vs.length<=sizeLine/\∀a,H1 a=none->sp (.ref a::vs) (upd H1 a (.ext (oM a (.ref C) none true))) (fun v H2=>v=.non/\Q (.ref a) H2) E0
theorem RR{pins:List (Addr×Obj)}{σ:St}{s:Shared}{Q:VK}{us:List Value}{vs:List V}(M:MkX X.K C f)(F:gP X.prog X.w X.K X.mg X.base CX0 k f fd ps sp)(hr:bS (k+1) X.A)(hb:Binds X.K fd ps [])(I:Inv X pins σ H s)(r:bC vs us)
 (hl:vs.length<=sizeLine) (h:∀a,H a=none->sp (.ref a::vs) (upd H a (.ext (oM a (.ref C) none true))) (fun v H2=>v=.non/\Q (.ref a) H2) E0):
 wpAny (model X.prog X.w) X.A (call (.ref C) us) (fun v s'=>∃a H',v=.ref a/\Inv X pins σ H' s'/\(X.ex=[]->X.s₀.heap.get? a=none)/\Q (.ref a) H') X.xe s:=by
 refine RG I.kIn M.ex M.init (beq_iff_eq.mp M.fn) (by rw[<- r.length];exact hl) fun h' a mk=>?_;obtain⟨h1,I2⟩:=I.newX mk;have hq:=h a h1;have r2:bC (V.ref a::vs) (Value.ref a::us):=.cons rfl r
 have hlen:(Value.ref a::us).length=ps.length:=by
  have e:=r2.length;rw[F.len _ _ _ _ hq]at e;exact e.symm
 have b:=hb { s with heap:=h' } (Value.ref a::us) I2.kIn (by rw[C6];exact hlen);rw[C6]at b;refine A0b (U1 (F.run _ X.stack _ _ ⟨Value.ref a::us,[]⟩ (Value.ref a::us) _ _ E0 (hr.make C us []) (I2.env0.make C us []) b r2 hq) fun rr s' hq'=>?_);cases rr with
 |error e=>exact False.elim hq'
 |ok fl=>
  cases fl with
  |ret u=>
   obtain⟨v,H',I3,rv,ev,q3⟩:=I2.after hq';subst ev
   have nw:X.ex=[]->X.s₀.heap.get? a=none:=fun hx=>by
    cases z:X.s₀.heap.get? a with
    |none=>rfl
    |some o=>
     obtain⟨o1,z1⟩:=I.base.there a o z (by rw[hx];simp);rw[mk.new]at z1;cases z1
   exact⟨rv,a,H',rfl,I3,nw,q3⟩
  |next=>exact False.elim hq'
  |brk=>exact False.elim hq'
  |cont=>exact False.elim hq'
theorem RD(M:MkX X.K C f)(F:gP X.prog X.w X.K X.mg X.base CX0 k f fd ps sp)(hr:bS (k+1) X.A)(hg:Gl X x)(hm:X.mg x=some (.ref C))(hb:Binds X.K fd ps [])
 (ha:PA X (e::es) t) (hdb:(x==("__debug__":Str))=false) (he:starEach (e::es) X.env=(false,eval e X.env)::starEach es X.env) (hpl:(backTo pos (starEach es X.env)).any (·.1)=false)
 {pins:List (Addr×Obj)} {s:Shared} {σ:St} {H:Hp} {Q:VK} (I:Inv X pins σ H s) (h:MM C sp t σ H Q):
 wpAny (model X.prog X.w) X.A (eval (.Call (.Name x p) (e::es) [] pos) X.env) (fun v s'=>∃a H',v=.ref a/\Inv X pins σ H' s'/\(X.ex=[]->X.s₀.heap.get? a=none)/\Q (.ref a) H') X.xe s:=by
 refine J4 (lA I hg hm ?_ hdb);exact O0 (h₀:=X.base) I.ok.mod.kin M.kp (thn (ha pos pins s σ H _ I h) fun us s1 ⟨vs,H1,I1,r,hl,q⟩=>⟨I1.kIn,RR M F hr hb I1 r hl q⟩) he hpl
end
theorem aCh{prog:Program}{w:World}{A:Around}{E:Value->Shared->Prop}{s:Shared}{env:Env}{e:Expr}{pos:Pos}{K:Fg}{C:Addr}{Q:Flow->Shared->Prop}(hh:A.handled=none)(q:FZ K C=true)(be:PySem.W.subIn K (.ref C) (.type "BaseException")=some true)
 (h:wpAny (model prog w) A (eval e env) (fun v s1=>∃a oe vs,v=.ref a/\K.In s1.heap/\s1.heap.get? a=some oe/\oe.cls=.ref C/\oe.data=.fields vs/\vs[1]?=some .none/\E (.ref a) s1) E s):
 wpAny (model prog w) A (exec (.Raise (some e) none pos) env) Q E s:=by
 show wpAny (model prog w) A (do standAt pos;raiseStmt env (some (do let v <- eval e env;standAt pos;pure v)) none) Q E s;refine A0 (S0 ?_);unfold raiseStmt;dsimp only;refine A0 (A0 (D0 h (fun v s1 z=>A0 (S0 (A3 ?_))) fun _ _ z=>z));obtain⟨a,oe,vs,rfl,X,he,hc,hv,h1,hE⟩:=z;have LT:PySem.W.Looks (model prog w) s1.heap (typeOf (.ref a)) (.ref C):=hc▸(PySem.W.Looks.ld he).andThen .now;have LS:=PySem.W.looks_subIn (M:=model prog w) X be;obtain⟨bm,N,nm,qn,bs,hd,sn,sub,ab,col,dd,k0,k1,k2,k3,k5,hC,_⟩:=yR X q;have LC:PySem.W.Looks (model prog w) s1.heap (typeOf (.ref C)) (.type "type"):=(PySem.W.Looks.ld hC).andThen .now
 have nt:∀{Q':Bool->Shared->Prop},Q' false s1->wpAny (model prog w) A (isType (.ref a)) Q' E s1:=fun{Q'} z=>by
  simp only[isType,loadHead];refine A0 (wpAny_loadPart he ?_);rw[hv];exact A3 z
 refine A0 (A3 ?_);dsimp only;refine A0 (D4 ?_);unfold excFromValue isExcClass;refine A0 (A0 (nt ?_));simp only[Bool.false_eq_true,if_false];refine A3 ?_;simp only[Bool.false_eq_true,if_false];unfold isInstance;refine A0 (A0 (LT.here (LS.here ?_)));simp only[if_true];refine A3 ?_;refine A0 (nt ?_);simp only[Bool.false_eq_true,if_false];unfold raisedInstance;refine A0 (A0 (LT.here (A0 (LC.here ?_))));rw[A4 (by decide)];refine A3 ?_;unfold setFlight;refine A0 (A0 (E5 he hv h1 ?_));rw[A5 (by decide)];exact A3 (wpAny_raiseNew_none hh hE)
section
variable{X:Cx}{C f:Addr}{x:Str}{p cpos pos:Pos}{k:Nat}{fd:FuncData}{ps:List Str}{sp:Sp}{e:Expr}{es:List Expr}{t:TA}
noncomputable def HB(EE:St->XK)(C:Addr)(sp:Sp)(t:TA):TS:=fun _ σ H=>MM C sp t σ H fun v H1=>∃a dx,v=.ref a/\H1 a=some (.ext (oM a (.ref C) dx true))/\EE σ (.ref C) dx (unt H1 a)
theorem QX{EE:St->XK}(ok:XOk X EE)(hc:X.calm=true)(M:MkX X.K C f)(be:PySem.W.subIn X.K (.ref C) (.type "BaseException")=some true)(F:gP X.prog X.w X.K X.mg X.base CX0 k f fd ps sp)(hr:bS (k+1) X.A)(hg:Gl X x)(hm:X.mg x=some (.ref C))(hb:Binds X.K fd ps [])
 (ha:PA X (e::es) t) (hdb:(x==("__debug__":Str))=false) (he:starEach (e::es) X.env=(false,eval e X.env)::starEach es X.env) (hpl:(backTo cpos (starEach es X.env)).any (·.1)=false):
 PS X (.Raise (some (.Call (.Name x p) (e::es) [] cpos)) none pos) (HB EE C sp t):=by
 intro pins s σ H D I h;refine aCh (I.ok.hd hc) M.ex be ?_;refine D0 (RD (X:=X) (p:=p) (pos:=cpos) M F hr hg hm hb ha hdb he hpl I h) (fun v s1 ⟨a',H1,ev,I1,new,a,dx,ex,ea,q⟩=>?_) fun _ _ z=>z;obtain rfl:a'=a:=V.ref.inj ex;subst ev;obtain⟨⟨o,vs,h1,h2,h3,h4,h5⟩,_⟩:=I1.hok a' _ ea;obtain⟨z1,z2⟩:=h5 rfl;have I2:Inv X [] σ (unt H1 a') s1:=(I1.untrack ea).pins_of fun p hp=>absurd hp (by simp);refine⟨a',o,vs,rfl,I1.kIn,h1,h2,h4,z2,ok.pass _ _ (VE ok.bd I2 h1 yK (new ok.bd.ex) (fun p hp z=>?_) h4 z1 z2 (by rw[h2,h3];exact q))⟩
 .have:=(I1.pin p (E6 _ hp)).2.1;rw[z,ea]at this;cases this
end
section
variable{X:Cx}{o value e:Expr}{ta tv:TE}{f:Str}{pos pos':Pos}
noncomputable def XA(K:Fg)(ta tv:TE)(f:Str):TS:=fun D σ H=>tv σ H fun y H1=>ta σ H1 fun x H2=>∃a C,x=.ref a/\H2 a=some (.ext (oM a (.ref C) none true))/\ZV K C f/\∀d,H2 d=none->d≠a->D.nx σ (upd (upd H2 d (.xd [(f,y)])) a (.ext (oM a (.ref C) (some d) true)))
theorem aBD(ha:PE X o ta)(hv:PE X value tv)(hs:swapsWith value (some (.Attribute o f pos')) pos.line X.env=pure false):PS X (.Assign [.Attribute o f pos'] value pos) (XA X.K ta tv f):=by
 intro pins s σ H D I h;refine plainObj_wpAny_Assign_Attribute (thn (hv pins s σ H _ I h) fun u s1 ⟨y,H1,I1,ry,q⟩=>thn (ha pins s1 σ H1 _ I1 q) fun ov s2 ⟨x,H2,I2,rx,a,C,ex,ea,c,q2⟩=>?_) hs;subst ex;obtain rfl:ov=Value.ref a:=rx;exact aBI I2 ea c ry fun d s3 hd hne I3=>⟨σ,_,I3,q2 d hd hne⟩
end
noncomputable def XG(nm:Str)(h:FN)(fa:AF):EF:=fun γ M=>(fa γ M).bind fun r=>if r.1.length<=sizeLine then(h (.c r.2.length::r.1) (r.2++[.exc true nm []])).bind fun q=>if sF q.1=true then some (.c r.2.length,q.2)else none else none
noncomputable def excOf(M:Sto):CD->Option (Nat×Bool×Str×List (Str×CD))
 |.c i=>match M[i]? with
  |some (.exc fr nm fs)=>some (i,fr,nm,fs)
  |_=>none
 |_=>none
theorem KZ{x:CD}{i:Nat}{fr:Bool}{nm:Str}{fs:List (Str×CD)}(h:excOf M x=some (i,fr,nm,fs)):x=.c i/\M[i]?=some (.exc fr nm fs):=by
 unfold excOf at h;split at h
 .rename_i j;split at h
  .rename_i a b c e;cases h;exact⟨rfl,e⟩
  .cases h
 .cases h
noncomputable def NH(nm f:Str)(eo ev:EF):SF:=fun γ M=>(ev γ M).bind fun v=>(eo γ v.2).bind fun o=>(excOf o.2 o.1).bind fun p=>if p.2.1=true/\p.2.2.1=nm/\p.2.2.2.isEmpty=true then some (.nx γ,o.2.set p.1 (.exc true nm [(f,v.1)]))else none
noncomputable def xS(nm:Str)(h:FN)(fa:AF):SFX:=fun γ M=>(XG nm h fa γ M).bind fun r=>(excOf r.2 r.1).bind fun p=>if p.2.1=true/\p.2.2.1=nm then some (.xc γ ⟨nm,p.2.2.2⟩,r.2.set p.1 .dead)else none
section
variable{K:Fg}{EE:St->XK}{ta tv:TE}{tA:TA}
theorem aAt{nm:Str}{h:FN}{fa:AF}(b:SA K tA fa):SE K (MM (aR K nm) (spM K h) tA) (XG nm h fa):=by
 intro γ M x M' hh W H σ Q G R k;obtain⟨⟨ys,M1⟩,h1,hh⟩:=aG hh
 have hl:ys.length<=sizeLine:=by
  by_cases z:ys.length<=sizeLine
  .exact z
  .rw[A5 z]at hh;cases hh
 rw[A4 hl]at hh;obtain⟨⟨z,M2⟩,h2,hh⟩:=aG hh
 have hz:sF z=true:=by
  cases q:sF z with
  |true=>rfl
  |false=>rw[q]at hh;cases hh
 rw[A4 hz]at hh;cases hh;have hz':=zV hz;subst hz';refine b _ _ _ _ h1 W H σ _ G R fun vs W1 H1 e1 G1 r1=>⟨by rw[<- Paired.len r1];exact hl,fun a ha=>?_⟩;have Gb:=G1.new ha (c:=.exc true nm []) (o:=.ext (oM a (.ref (aR K nm)) none true)) ⟨none,rfl,rfl⟩;have e2:=W1.ext_more a;refine⟨.c M1.length::ys,M1++[.exc true nm []],W1.more a,.d .none,M2,Gb,.cons G1.newV (bM.up r1 e2),h2,fun v W3 H3 e3 G3 r3=>⟨r3,?_⟩⟩;exact k _ W3 H3 ((e1.trans e2).trans e3) G3 (G1.newV.up e3)
theorem aBx{nm f:Str}{eo ev:EF}(c:ZV K (aR K nm) f)(a:SE K ta eo)(b:SE K tv ev):SS K (XA K ta tv f) (NH nm f eo ev):=by
 intro γ M o M' hh W H σ D G R k;obtain⟨⟨y,M1⟩,h1,hh⟩:=aG hh;obtain⟨⟨z,M2⟩,h2,hh⟩:=aG hh;obtain⟨⟨i,fr,nm',fs⟩,h3,hh⟩:=aG hh;by_cases hc:fr=true/\nm'=nm/\fs.isEmpty=true
 .have hh:(if fr=true/\nm'=nm/\fs.isEmpty=true then some (Out.nx γ,M2.set i (.exc true nm [(f,y)]))else none)=some (o,M'):=hh;rw[A4 hc]at hh;cases hh;obtain⟨rfl,rfl,q⟩:=hc;have q:fs=[]:=by cases fs with|nil=>rfl|cons _ _=>cases q
  subst q;refine b _ _ _ _ h1 W H σ _ G R fun v W1 H1 e1 G1 r1=>?_;refine a _ _ _ _ h2 W1 H1 σ _ G1 (R.up e1) fun u W2 H2 e2 G2 r2=>?_;obtain⟨rfl,hM⟩:=KZ h3;obtain⟨dx,hH,hx⟩:=G2.excAt hM;cases dx with
  |some d=>
   exact absurd rfl hx.1
  |none=>
   refine⟨W2.α i,_,r2.2,hH,c,fun d hd hne=>?_⟩;obtain⟨e3,G3⟩:=G2.lay (o:=.xd [(f,v)]) hd;have e23:=(e1.trans e2).trans e3;refine k _ _ e23 (G3.set hM (by intro q;cases q) (c':=.exc true nm' [(f,y)]) (o':=.ext (oM (W2.α i) (.ref (aR K nm')) (some d) true)) ⟨some d,rfl,by simp,[(f,v)],aP,.cons ⟨rfl,(r1.up e2).up e3⟩ .nil⟩) σ (R.up e23)
 .have hh:(if fr=true/\nm'=nm/\fs.isEmpty=true then some (Out.nx γ,M2.set i (.exc true nm [(f,y)]))else none)=some (o,M'):=hh;rw[A5 hc]at hh;cases hh
theorem Good.kill(g:Good K W M H){i:Nat}{c:Cell}(hi:M[i]?=some c)(hc:c≠.dead):Good K W (M.set i .dead) (unt H (W.α i)):=by
 obtain⟨h1,o,h2,h3⟩:=g.cs i c hi hc;have lt:i<M.length:=(List.getElem?_eq_some_iff.mp hi).1
 have at_:∀j d,(M.set i .dead)[j]?=some d->d≠.dead->j≠i/\M[j]?=some d:=fun j d h hd=>by
  by_cases q:i=j
  .subst q;rw[E1 lt]at h;exact absurd (D2 h).symm hd
  .rw[D7 q]at h;exact⟨fun z=>q z.symm,h⟩
 refine⟨fun b u hb=>?_,by rw[g.n,Y6],fun j d hj hd=>?_,fun j k d1 d2 hj hk e1 e2 he=>?_⟩
 .rw[nM (fun z=>by rw[z,h1]at hb;cases hb)];exact g.fh b u hb
 .obtain⟨q,h⟩:=at_ j d hj hd;obtain⟨k1,u,k2,k3⟩:=g.cs j d h hd;exact⟨k1,u,by rw[nM fun z=>q (g.inj j i d c h hi hd hc z)];exact k2,k3⟩
 .exact g.inj j k d1 d2 (at_ j d1 hj e1).2 (at_ k d2 hk e2).2 e1 e2 he
theorem MJ{nm:Str}{h:FN}{fa:AF}(b:SA K tA fa):SSX K EE (HB EE (aR K nm) (spM K h) tA) (xS nm h fa):=by
 intro γ M o M' hh W H σ D G R k;obtain⟨⟨x,M1⟩,h1,hh⟩:=aG hh;obtain⟨⟨i,fr,nm',fs⟩,h2,hh⟩:=aG hh;by_cases hc:fr=true/\nm'=nm
 .have hh:(if fr=true/\nm'=nm then some (RA.xc γ ⟨nm,fs⟩,M1.set i .dead)else none)=some (o,M'):=hh;rw[A4 hc]at hh;cases hh;obtain⟨rfl,rfl⟩:=hc;refine aAt b _ _ _ _ h1 W H σ _ G R fun v W1 H1 e1 G1 r1=>?_;obtain⟨rfl,hM⟩:=KZ h2;obtain⟨dx,hH,hx⟩:=G1.excAt hM;exact⟨_,dx,r1.2,hH,k W1 _ e1 (G1.kill hM (by intro q;cases q)) σ _ dx (R.up e1) ⟨rfl,hx⟩⟩
 .have hh:(if fr=true/\nm'=nm then some (RA.xc γ ⟨nm,fs⟩,M1.set i .dead)else none)=some (o,M'):=hh;rw[A5 hc]at hh;cases hh
end
structure BS(P:Program)(w:World)(K:Fg)(mg:Str->Option Value)(base:Heap)(k:Nat)(nm:Str)(ps:List Str)(sp:Sp):Prop where
 ex:∃f fd,gP P w K mg base CX0 k f fd ps sp/\MkX K (aR K nm) f/\Binds K fd ps []
section
variable{P:Program}{w:World}{K:Fg}{mg:Str->Option Value}{base:Heap}
theorem CJ.okIX{nm qual:Str}{st:Stmt}{N ps:List Str}{k:Nat}{b:SF}(D:CJ K nm "__init__" qual st)(hm:FZ K (aR K nm)=true)(hk:PySem.W.keepIn K (.ref (aR K nm))=true)(S:aS N ps (aH st))
 (hb:∀(kV doc pm:Value)(an:Option Addr)(cdv ct:Value)(us:List Value),us.length=ps.length->bindArgs (PySem.W.fnOf "__init__" qual (cR st) (bF st) (aH st) .none kV doc pm an cdv ct) ⟨us,[]⟩=pure (ps.zip us))
 (hbody:∀(f:Addr)(cdv:Value)(A:Around)(outer:List Env)(s:Shared)(H:Hp)(E:XK),bS k (A.deeper (envOfC qual (aH st) s.heap.objs.size f cdv))->
  ML K (fun _:Unit=>(kR CX0 P w K mg base N qual (aH st) f cdv A outer s H E).nox) (bF st) b):BS P w K mg base (k+1) nm ps (spM K (fnF ps.length N.length b)):=by
 obtain⟨f,fd,F,h1,h2⟩:=D.ex;exact⟨f,fd,F.okQ S hbody,⟨hm,h1,h2,hk⟩,F.binds hb⟩
theorem GR{nm m qual:Str}{st:Stmt}{C f:Addr}{oc:Value}{od an:Option Addr}{osl:Array (Option Value)}{kV doc pm cdv ct:Value}(hC:aR K nm=C)(hf:PySem.W.findIn K (.ref C) m=some (some (.ref f)))
 (l:K.lookup f=some ⟨oc,od,.func (PySem.W.fnOf m qual (cR st) (bF st) (aH st) .none kV doc pm an cdv ct),osl⟩) (c:PySem.W.codeIn K cdv qual=true) (k:PySem.W.keepIn K (.ref f)=true) (fn:PySem.W.isFn K (.ref f)=true):CJ K nm m qual st:=
 ⟨f,_,aAa l c k,by rw[hC];exact hf,fn⟩
end
section
variable{ι:Type}{K:Fg}{X:ι->Cx}{EE:ι->St->XK}{e o a b:Expr}{es:List Expr}{f g:EF}{fa:AF}{pos:Pos}
theorem BR{k:Nat}{nm:Str}{ps:List Str}{F:FN}{p cpos:Pos}(ok:∀i,XOk (X i) (EE i))(C:∀i,BS (X i).prog (X i).w (X i).K (X i).mg (X i).base k nm ps (spM K F))(hK:∀i,(X i).K=K)(hc:∀i,(X i).calm=true)(hm:∀i,(X i).mg nm=some (.ref (aR K nm)))(be:PySem.W.subIn K (.ref (aR K nm)) (.type "BaseException")=some true)
 (hr:∀i,bS (k+1) (X i).A) (y:MA K X (e::es) fa) (hg:∀i,Gl (X i) nm:=by intro _;rfl) (hd:(nm==("__debug__":Str))=false:=by decide):
 MSX K X EE (.Raise (some (.Call (.Name nm p) (e::es) [] cpos)) none pos) (xS nm F fa):=by
 obtain⟨u,y1,y2⟩:=y.ex;refine⟨fun i=>HB (EE i) (aR K nm) (spM K F) u,fun i=>?_,fun i=>MJ y2⟩;obtain⟨f,fd,F',M,B⟩:=(C i).ex;have hmi:(X i).mg nm=some (.ref (aR (X i).K nm)):=by rw[hK i];exact hm i
 have:=QX (ok i) (hc i) M (by rw[hK i];exact be) F' (hr i) (hg i) hmi B (y1 i) hd (y.st.1 _) (y.st.2.plain _ _) (p:=p) (cpos:=cpos) (pos:=pos);rw[hK i]at this;exact this
theorem aCd{nm fl:Str}{pos':Pos}(hK:∀i,(X i).K=K)(hc:ZV K (aR K nm) fl)(x:ME K X o f)(y:ME K X e g)(hs:∀i,swapsWith e (some (.Attribute o fl pos')) pos.line (X i).env=pure false:=by intro _;rfl):MS K X (.Assign [.Attribute o fl pos'] e pos) (NH nm fl f g):=by
 obtain⟨t,x1,x2⟩:=x.ex;obtain⟨u,y1,y2⟩:=y.ex;refine⟨_,fun i=>?_,aBx hc x2 y2⟩;have:=aBD (x1 i) (y1 i) (hs i);rw[hK i]at this;exact this
end
section
variable{K:Fg}
noncomputable def aAz:F2:=fun x y M=>(rT M x).bind fun xs=>(rT M y).bind fun ys=>if xs.length+ys.length<=sizeLine then some (.c M.length,M++[.lst (xs++ys)])else none
theorem aBP:P2 K (DY K) aAz:=by
 intro x y M z M' h W H v u Q G rx ry k;obtain⟨xs,h1,h⟩:=aG h;obtain⟨ys,h2,h⟩:=aG h;by_cases hl:xs.length+ys.length<=sizeLine
 .rw[A4 hl]at h;cases h;obtain⟨p,vs,rfl,hp,hr⟩:=rB G h1 rx;obtain⟨q,us,rfl,hq,hs⟩:=rB G h2 ry;refine⟨p,q,vs,us,rfl,rfl,hp,hq,by rw[<- Paired.len hr,<- Paired.len hs];exact hl,fun l hl=>?_⟩;exact k _ (W.more l) _ (W.ext_more l) (G.new hl (c:=.lst (xs++ys)) (o:=.lst (vs++us)) (Paired.app hr hs)) G.newV
 .rw[A5 hl]at h;cases h
noncomputable def xN:F2:=xG dW aAz
theorem aCb:P2 K (fun x y H Q=>QA K x y H Q\/DY K x y H Q) xN:=P2.or QT aBP
theorem aGy{ι:Type}{X:ι->Cx}(hK:∀i,(X i).K=K):Q2 K X (binaryOp .Add) xN:=⟨_,fun i=>(aIw (hK i)).or (show OpR (X i) (binaryOp .Add) (DY K)by have:=op_catS (X:=X i);rw[hK i]at this;exact this),aCb⟩
end
section
variable{K:Fg}
noncomputable def kJ(K:Fg)(c:Value)(tab:List (Str×Bool)):Bool:=tab.all fun p=>match PySem.W.kitOne K (.ref (aR K p.1)) c with
 |some b=>b==p.2
 |none=>false
theorem gE{c:Value}{tab:List (Str×Bool)}{ns:List Str}(hx:∀nm∈ns,XC K (aR K nm))(h:kJ K c tab=true)(e:tab.map Prod.fst=ns):∀p∈tab,XC K (aR K p.1)/\PySem.W.kitOne K (.ref (aR K p.1)) c=some p.2:=by
 intro p hp;refine⟨hx _ (by rw[<- e];exact J0 hp),?_⟩;have:=List.all_eq_true.mp h p hp;split at this
 .rename_i b hb;rw[hb,eq_of_beq this]
 .cases this
theorem aBn:∀nm∈([]:List Str),XC K (aR K nm):=fun _ h=>absurd h (by simp)
theorem AD{a:Str}{l:List Str}(x:XC K (aR K a))(r:∀nm∈l,XC K (aR K nm)):∀nm∈a::l,XC K (aR K nm):=fun p hp=>by
 rcases List.mem_cons.mp hp with rfl|z
 .exact x
 .exact r p z
end
noncomputable abbrev KY:=Key ⊕ List Key
noncomputable abbrev KF:=Ga->Sto->Option (KY×Sto)
noncomputable def NV(W:Wd):KY->V->Prop
 |.inl k,v=>v=kV k
 |.inr ks,v=>∃b,v=.ref b/\W.F b=some (.tup (ks.map kV))
theorem NV.up{W':Wd}{k:KY}{v:V}(h:NV W k v)(e:W.Ext W'):NV W' k v:=by
 cases k with
 |inl k=>exact h
 |inr ks=>obtain⟨b,h1,h2⟩:=h;exact⟨b,h1,e.ff _ _ h2⟩
section
variable{K:Fg}
noncomputable def SK(K:Fg)(t:TE)(f:KF):Prop:=∀γ M k M',f γ M=some (k,M')->∀(W:Wd)(H:Hp)(σ:St)(Q:VK),Good K W M H->cF K W γ σ->(∀v W' H',W.Ext W'->Good K W' M' H'->NV W' k v->Q v H')->t σ H Q
noncomputable def keysOf:List CD->Option (List Key)
 |[]=>some []
 |x::xs=>(keyOf x).bind fun k=>(keysOf xs).bind fun ks=>some (k::ks)
noncomputable def kQ(fa:AF):KF:=fun γ M=>(fa γ M).bind fun r=>(keysOf r.1).bind fun ks=>if ks.length<=sizeLine then some (.inr ks,r.2)else none
variable{t td ty tx tv:TE}{tA:TA}{f fo fx fv:EF}{fk:KF}{fa:AF}
theorem yJ{W:Wd}:∀{xs:List CD}{ks:List Key}{vs:List V},keysOf xs=some ks->bM K W xs vs->vs=ks.map kV
 |[],ks,vs=>fun h r=>by cases h;cases r;rfl
 |x::xs,ks,vs=>fun h r=>by
  obtain⟨k,h1,h⟩:=aG h;obtain⟨ks',h2,h⟩:=aG h;cases h;cases r with
  |cons r1 r2=>rw[vI h1 r1,yJ h2 r2];rfl
theorem WV(b:SA K tA fa):SK K (NU tA) (kQ fa):=by
 intro γ M k M' hh W H σ Q G R c;obtain⟨⟨ys,M1⟩,h1,hh⟩:=aG hh;obtain⟨ks,h2,hh⟩:=aG hh;by_cases hl:ks.length<=sizeLine
 .rw[A4 hl]at hh;cases hh;refine b _ _ _ _ h1 W H σ _ G R fun vs W1 H1 e1 G1 r1=>?_;have ev:=yJ h2 r1;refine⟨by rw[ev,A9];exact hl,fun p hp=>?_⟩;obtain⟨e2,G2⟩:=G1.lay (o:=.tup vs) hp;exact c _ _ _ (e1.trans e2) G2 ⟨p,rfl,by show upd W1.F p (.tup vs) p=_;rw[aP,ev]⟩
 .rw[A5 hl]at hh;cases hh
section
variable{κ:Type}[DecidableEq κ]
noncomputable def lkC(kvs:List (κ×CD))(k:κ):Option CD:=(kvs.find? fun kv=>decide (kv.1=k)).map (·.2)
noncomputable def putD(kvs:List (κ×CD))(k:κ)(v:CD):List (κ×CD):=
 if (kvs.any fun kv=>decide (kv.1=k))=true then kvs.map (fun kv=>if kv.1=k then(kv.1,v)else kv)else kvs++[(k,v)]
noncomputable abbrev PKV(K:Fg)(W:Wd)(kvs:List (κ×CD))(us:List (κ×V)):Prop:=Paired (fun p q=>p.1=q.1/\bP K W p.2 q.2) kvs us
theorem EY{W:Wd}{k:κ}:∀{kvs:List (κ×CD)}{us:List (κ×V)},PKV K W kvs us->IA K W (lkC kvs k) (iB us k)
 |_,_,.nil=>True.intro
 |_,_,.cons (a:=p) (b:=q) (l₁:=ps) (l₂:=qs) r1 r2=>by
  by_cases h:p.1=k
  .have h':q.1=k:=r1.1▸h;rw[show lkC (p::ps) k=some p.2 by simp[lkC,List.find?_cons,h],show iB (q::qs) k=some q.2 by simp[iB,List.find?_cons,h']];exact r1.2
  .have h':¬q.1=k:=r1.1▸h;rw[show lkC (p::ps) k=lkC ps k by simp[lkC,List.find?_cons,h],show iB (q::qs) k=iB qs k by simp[iB,List.find?_cons,h']];exact EY r2
theorem JJ{W:Wd}{k:κ}:∀{kvs:List (κ×CD)}{us:List (κ×V)},PKV K W kvs us->(kvs.any fun kv=>decide (kv.1=k))=us.any fun kv=>decide (kv.1=k)
 |_,_,.nil=>rfl
 |_,_,.cons r1 r2=>by rw[L8,L8,JJ r2,r1.1]
theorem KC{W:Wd}{k:κ}{x:CD}{v:V}(rv:bP K W x v):∀{kvs:List (κ×CD)}{us:List (κ×V)},PKV K W kvs us->PKV K W (kvs.map fun kv=>if kv.1=k then(kv.1,x)else kv) (us.map fun kv=>if kv.1=k then(kv.1,v)else kv)
 |_,_,.nil=>.nil
 |_,_,.cons (a:=p) (b:=q) r1 r2=>by
  rw[C3,C3];refine .cons ?_ (KC rv r2);by_cases h:p.1=k
  .rw[A4 h,A4 (r1.1▸h)];exact⟨r1.1,rv⟩
  .rw[A5 h,A5 (r1.1▸h)];exact r1
theorem CV{k:κ}{x:CD}{v:V}{kvs:List (κ×CD)}{us:List (κ×V)}(r:PKV K W kvs us)(rv:bP K W x v):PKV K W (putD kvs k x) (putK us k v):=by
 unfold putD putK;rw[JJ r];split
 .exact KC rv r
 .exact Paired.app r (.cons ⟨rfl,rv⟩ .nil)
end
noncomputable def lkP(kvs:List (List Key×PyData))(k:List Key):Option PyData:=(kvs.find? fun kv=>decide (kv.1=k)).map (·.2)
theorem HV{W:Wd}{k:List Key}:∀{kvs:List (List Key×PyData)}{us:List (List Key×V)},Paired (fun p q=>p.1=q.1/\Rep K W.F p.2 q.2) kvs us->IA K W ((lkP kvs k).map .d) (iB us k)
 |_,_,.nil=>True.intro
 |_,_,.cons (a:=p) (b:=q) (l₁:=ps) (l₂:=qs) r1 r2=>by
  by_cases h:p.1=k
  .have h':q.1=k:=r1.1▸h;rw[show lkP (p::ps) k=some p.2 by simp[lkP,List.find?_cons,h],show iB (q::qs) k=some q.2 by simp[iB,List.find?_cons,h']];exact r1.2
  .have h':¬q.1=k:=r1.1▸h;rw[show lkP (p::ps) k=lkP ps k by simp[lkP,List.find?_cons,h],show iB (q::qs) k=iB qs k by simp[iB,List.find?_cons,h']];exact HV r2
noncomputable def atD(M:Sto):CD->KY->Option (Option CD)
 |.c i,.inl k=>match M[i]? with
  |some (.dk kvs)=>some (lkC kvs k)
  |_=>none
 |.c i,.inr ks=>match M[i]? with
  |some (.dt kvs)=>some (lkC kvs ks)
  |_=>none
 |.f kvs,.inr ks=>some ((lkP kvs ks).map .d)
 |_,_=>none
noncomputable def uK(M:Sto):CD->KY->CD->Option Sto
 |.c i,.inl k,x=>match M[i]? with
  |some (.dk kvs)=>if kvs.length<sizeLine then some (M.set i (.dk (putD kvs k x)))else none
  |_=>none
 |.c i,.inr ks,x=>match M[i]? with
  |some (.dt kvs)=>if kvs.length<sizeLine then some (M.set i (.dt (putD kvs ks x)))else none
  |_=>none
 |_,_,_=>none
noncomputable def IP(M:Sto):CD->Bool
 |.c i=>match M[i]? with
  |some (.dk _)=>true
  |some (.dt _)=>true
  |_=>false
 |_=>false
theorem Good.dkAt{i:Nat}{kvs:List (Key×CD)}(G:Good K W M H)(h:M[i]?=some (.dk kvs)):∃us,H (W.α i)=some (.dK us)/\PKV K W kvs us:=by
 obtain⟨_,o,h2,h3⟩:=G.cs i _ h (by intro z;cases z);cases o<;>first|exact⟨_,h2,h3⟩|exact False.elim h3
theorem Good.dtAt{i:Nat}{kvs:List (List Key×CD)}(G:Good K W M H)(h:M[i]?=some (.dt kvs)):∃us,H (W.α i)=some (.dT us)/\PKV K W kvs us:=by
 obtain⟨_,o,h2,h3⟩:=G.cs i _ h (by intro z;cases z);cases o<;>first|exact⟨_,h2,h3⟩|exact False.elim h3
theorem GI{x:CD}{k:KY}{r:Option CD}{v y:V}(G:Good K W M H)(h:atD M x k=some r)(rx:bP K W x v)(ry:NV W k y):∃a o,v=.ref a/\uS H a y o/\IA K W r o:=by
 unfold atD at h;split at h
 .rename_i i k';split at h
  .rename_i kvs hk;cases h;obtain⟨us,h1,h2⟩:=G.dkAt hk;refine⟨_,_,rx.2,?_,EY h2⟩;rw[show y=kV k' from ry];exact uS.k h1
  .cases h
 .rename_i i ks;split at h
  .rename_i kvs hk;cases h;obtain⟨us,h1,h2⟩:=G.dtAt hk;obtain⟨b,rfl,hb⟩:=ry;exact⟨_,_,rx.2,uS.t h1 (G.fh _ _ hb),EY h2⟩
  .cases h
 .rename_i kvs ks;cases h;obtain⟨a,o,us,rfl,h1,h2⟩:=rx;obtain⟨b,rfl,hb⟩:=ry;exact⟨_,_,rfl,.inr ⟨us,ks,b,.inr ⟨o,G.fh _ _ h1⟩,rfl,G.fh _ _ hb,rfl⟩,HV h2⟩
 .cases h
theorem UH{x:CD}{v:V}(G:Good K W M H)(h:IP M x=true)(rx:bP K W x v):∃a,v=.ref a/\IsD H a:=by
 unfold IP at h;split at h
 .rename_i i;split at h
  .rename_i kvs hk;obtain⟨us,h1,_⟩:=G.dkAt hk;exact⟨_,rx.2,.inl ⟨us,.inl h1⟩⟩
  .rename_i kvs hk;obtain⟨us,h1,_⟩:=G.dtAt hk;exact⟨_,rx.2,.inr ⟨us,.inl h1⟩⟩
  .cases h
 .cases h
theorem zJ{M':Sto}{x z:CD}{k:KY}{v y u:V}(G:Good K W M H)(h:uK M x k z=some M')(rx:bP K W x v)(ry:NV W k y)(rz:bP K W z u):∃a H',v=.ref a/\qK H a y u H'/\Good K W M' H':=by
 unfold uK at h;split at h
 .rename_i z' i k';split at h
  .rename_i kvs hk;by_cases hl:kvs.length<sizeLine
   .rw[A4 hl]at h;cases h;obtain⟨us,h1,h2⟩:=G.dkAt hk;refine⟨_,_,rx.2,?_,G.set hk (by intro q;cases q) (o':=.dK (putK us k' u)) (CV h2 rz)⟩;rw[show y=kV k' from ry];exact qK.k h1 (by rw[<- Paired.len h2];exact hl)
   .rw[A5 hl]at h;cases h
  .cases h
 .rename_i z' i ks;split at h
  .rename_i kvs hk;by_cases hl:kvs.length<sizeLine
   .rw[A4 hl]at h;cases h;obtain⟨us,h1,h2⟩:=G.dtAt hk;obtain⟨b,rfl,hb⟩:=ry;exact⟨_,_,rx.2,qK.t h1 (G.fh _ _ hb) (by rw[<- Paired.len h2];exact hl),G.set hk (by intro q;cases q) (o':=.dT (putK us ks u)) (CV h2 rz)⟩
   .rw[A5 hl]at h;cases h
  .cases h
 .cases h
noncomputable def GU:EF:=fun _ M=>some (.c M.length,M++[.dt []])
noncomputable def wU(fo:EF)(fk:KF):EF:=fun γ M=>(fo γ M).bind fun o=>(fk γ o.2).bind fun k=>(atD k.2 o.1 k.1).bind fun r=>r.bind fun x=>some (x,k.2)
noncomputable def aDd(neg:Bool)(fk:KF)(fo:EF):EF:=fun γ M=>(fk γ M).bind fun k=>(fo γ k.2).bind fun o=>(atD o.2 o.1 k.1).bind fun r=>some (.d (.bool (if neg then !r.isSome else r.isSome)),o.2)
noncomputable def yQ(fo:EF)(fk:KF)(fx:EF):EF:=fun γ M=>(fo γ M).bind fun o=>if IP o.2 o.1=true then(fk γ o.2).bind fun k=>(fx γ k.2).bind fun x=>(atD x.2 o.1 k.1).bind fun r=>some (r.getD x.1,x.2)else none
noncomputable def pG(fo:EF)(fk:KF)(fv:EF):SF:=fun γ M=>(fv γ M).bind fun v=>(fo γ v.2).bind fun o=>(fk γ o.2).bind fun k=>(uK k.2 o.1 k.1 v.1).bind fun M'=>some (.nx γ,M')
theorem ZA:SE K WE GU:=by
 intro γ M x M' hh W H σ Q G R k;cases hh;exact fun p hp=>k _ (W.more p) _ (W.ext_more p) (G.new hp (c:=.dt []) (o:=.dT []) .nil) G.newV
theorem aAT(a:SE K td fo)(b:SK K ty fk):SE K (aDk td ty) (wU fo fk):=by
 intro γ M x M' hh W H σ Q G R k;obtain⟨⟨o,M1⟩,h1,hh⟩:=aG hh;obtain⟨⟨ky,M2⟩,h2,hh⟩:=aG hh;obtain⟨r,h3,hh⟩:=aG hh;obtain⟨z,h4,hh⟩:=aG hh;cases hh;subst h4;refine a _ _ _ _ h1 W H σ _ G R fun v W1 H1 e1 G1 r1=>b _ _ _ _ h2 W1 H1 σ _ G1 (R.up e1) fun y W2 H2 e2 G2 r2=>?_;obtain⟨p,ov,ev,g,ro⟩:=GI G2 h3 (r1.up e2) r2;cases ov with
 |none=>exact False.elim ro
 |some u=>exact⟨p,u,ev,g,k u W2 H2 (e1.trans e2) G2 ro⟩
theorem RB{r:Option CD}{o:Option V}(h:IA K W r o):o.isSome=r.isSome:=by
 cases r<;>cases o<;>first|rfl|exact False.elim h
theorem aFb(b:SK K ty fk)(a:SE K td fo):SE K (aIt ty td) (aDd false fk fo):=by
 intro γ M x M' hh W H σ Q G R k;obtain⟨⟨ky,M1⟩,h1,hh⟩:=aG hh;obtain⟨⟨o,M2⟩,h2,hh⟩:=aG hh;obtain⟨r,h3,hh⟩:=aG hh;cases hh;refine b _ _ _ _ h1 W H σ _ G R fun y W1 H1 e1 G1 r1=>a _ _ _ _ h2 W1 H1 σ _ G1 (R.up e1) fun v W2 H2 e2 G2 r2=>?_;obtain⟨p,ov,ev,g,ro⟩:=GI G2 h3 r2 (r1.up e2);refine⟨p,ov,ev,g,k _ W2 H2 (e1.trans e2) G2 ?_⟩;show _=V.bl r.isSome;rw[RB ro]
theorem aAn(a:SE K td fo)(b:SK K ty fk)(c:SE K tx fx):SE K (ZU td ty tx) (yQ fo fk fx):=by
 intro γ M x M' hh W H σ Q G R k;obtain⟨⟨o,M1⟩,h1,hh⟩:=aG hh;by_cases hd:IP M1 o=true
 .have hh:(if IP M1 o=true then(fk γ M1).bind fun k=>(fx γ k.2).bind fun x=>(atD x.2 o k.1).bind fun r=>some (r.getD x.1,x.2)else none)=some (x,M'):=hh;rw[A4 hd]at hh;obtain⟨⟨ky,M2⟩,h2,hh⟩:=aG hh;obtain⟨⟨z,M3⟩,h3,hh⟩:=aG hh;obtain⟨r,h4,hh⟩:=aG hh;cases hh;refine a _ _ _ _ h1 W H σ _ G R fun v W1 H1 e1 G1 r1=>?_;obtain⟨p,ev,id⟩:=UH G1 hd r1;refine⟨p,ev,id,b _ _ _ _ h2 W1 H1 σ _ G1 (R.up e1) fun y W2 H2 e2 G2 r2=>c _ _ _ _ h3 W2 H2 σ _ G2 (R.up (e1.trans e2)) fun u W3 H3 e3 G3 r3=>?_⟩;obtain⟨p',ov,ev',g,ro⟩:=GI G3 h4 ((r1.up e2).up e3) (r2.up e3);have:p'=p:=by rw[ev]at ev';cases ev';rfl
  subst this;refine⟨ov,g,k _ W3 H3 ((e1.trans e2).trans e3) G3 ?_⟩;cases r<;>cases ov<;>first|exact r3|exact ro|exact False.elim ro
 .have hh:(if IP M1 o=true then(fk γ M1).bind fun k=>(fx γ k.2).bind fun x=>(atD x.2 o k.1).bind fun r=>some (r.getD x.1,x.2)else none)=some (x,M'):=hh;rw[A5 hd]at hh;cases hh
theorem aCL(a:SE K td fo)(b:SK K ty fk)(c:SE K tv fv):SS K (aDR td ty tv) (pG fo fk fv):=by
 intro γ M o M' hh W H σ D G R k;obtain⟨⟨z,M1⟩,h1,hh⟩:=aG hh;obtain⟨⟨x,M2⟩,h2,hh⟩:=aG hh;obtain⟨⟨ky,M3⟩,h3,hh⟩:=aG hh;obtain⟨M4,h4,hh⟩:=aG hh;cases hh;refine c _ _ _ _ h1 W H σ _ G R fun u W1 H1 e1 G1 r1=>a _ _ _ _ h2 W1 H1 σ _ G1 (R.up e1) fun v W2 H2 e2 G2 r2=>b _ _ _ _ h3 W2 H2 σ _ G2 (R.up (e1.trans e2)) fun y W3 H3 e3 G3 r3=>?_;obtain⟨p,H4,ev,g,G4⟩:=zJ G3 h4 (r2.up e3) r3 ((r1.up e2).up e3);exact⟨p,H4,ev,g,k W3 H4 ((e1.trans e2).trans e3) G4 σ (R.up ((e1.trans e2).trans e3))⟩
end
section
variable{ι:Type}
structure MK(K:Fg)(X:ι->Cx)(e:Expr)(f:KF):Prop where
 ex:∃t,(∀i,PE (X i) e t)/\SK K t f
variable{K:Fg}{X:ι->Cx}{e o i a b:Expr}{es:List Expr}{f g fx:EF}{fk:KF}{fa:AF}{pos:Pos}
theorem BE{k:Nat}(x:MA K X es fa):MK K X (.Tuple es k pos) (kQ fa):=by
 obtain⟨t,x1,x2⟩:=x.ex;exact⟨_,fun i=>sR (x1 i),WV x2⟩
theorem WQ:ME K X (.Dict [] [] pos) GU:=⟨_,fun _=>VP,ZA⟩
theorem aCn(hu:∀j,(X j).A.units+1<cLine)(x:ME K X o f)(y:MK K X i fk)(hs:aFp i:=by intro _ _;rfl):ME K X (.Subscript o i pos) (wU f fk):=by
 obtain⟨t,x1,x2⟩:=x.ex;obtain⟨u,y1,y2⟩:=y.ex;exact⟨_,fun j=>aBU (hu j) (x1 j) (y1 j) hs,aAT x2 y2⟩
theorem aGP(hu:∀j,(X j).A.units+1<cLine)(y:MK K X i fk)(x:ME K X o f)(hm:behindInMarks .In o=false:=by rfl):MT K X (.Compare i [.In] [o] pos) (gB (aDd false fk f)):=by
 obtain⟨t,x1,x2⟩:=x.ex;obtain⟨u,y1,y2⟩:=y.ex;exact⟨_,fun j=>aGT (aEo (hu j) (y1 j) (x1 j)) hm,aFf (aFb y2 x2)⟩
theorem PZ{pos':Pos}(hu:∀j,(X j).A.units+1<cLine)(x:ME K X o f)(y:MK K X i fk)(z:ME K X e g)(hs:∀j,swapsWith e (some (.Subscript o i pos')) pos.line (X j).env=pure false:=by intro _;rfl):MS K X (.Assign [.Subscript o i pos'] e pos) (pG f fk g):=by
 obtain⟨t,x1,x2⟩:=x.ex;obtain⟨u,y1,y2⟩:=y.ex;obtain⟨v,z1,z2⟩:=z.ex;exact⟨_,fun j=>aCP (hu j) (x1 j) (y1 j) (z1 j) (hs j),aCL x2 y2 z2⟩
theorem UL{apos cpos:Pos}(hu:∀j,(X j).A.units+1<cLine)(x:ME K X o f)(y:MK K X e fk)(z:ME K X b g)(h1:BX e [b])(h2:BX b [])(hb:∀env:Env,attributeBase o "get" env (eval o env)=eval o env:=by intro _;rfl)(hl:(apos.endLine==cpos.line)=true:=by rfl) :
 ME K X (.Call (.Attribute o "get" apos) [e,b] [] cpos) (yQ f fk g):=by
 obtain⟨t,x1,x2⟩:=x.ex;obtain⟨u,y1,y2⟩:=y.ex;obtain⟨v,z1,z2⟩:=z.ex;exact⟨_,fun j=>UZ (hu j) (x1 j) (y1 j) (z1 j) ⟨hb _,by rw[h1,h2];rfl,hl,by rw[h1,h2];rfl⟩,aAn x2 y2 z2⟩
end
end L2
namespace PySem
open Sem (wp)
open AutoSeq1 (wpAny_loadPart')
section
variable{prog:Program}{w:World}{A:Around}{E:Value->Shared->Prop}{s:Shared}
theorem CN{it l:Addr}{i:Nat}{items}{x:Value}{Q:Value->Shared->Prop}(hit:s.heap.IsTupleIter it l i)(hl:s.heap.IsTuple l items)(hx:items[i]?=some x)
 (hQ:∀h',h'.IsTupleIter it l (i+1)->Heap.SameBut it s.heap h'->Q x { s with heap:=h' }):wpAny (model prog w) A (Builtin.SmallTypes.nextOf (.ref it)) Q E s:=by
 obtain⟨o,ho,hc,hd⟩:=id hit;obtain⟨ol,hol,_,nl,hdl⟩:=hl;unfold Builtin.SmallTypes.nextOf;refine A0 (J7 (name:=Str.ofString "__next__") hit.typeIs S7 (F7 S7 hit.typeIs F.entry_tuple_iterator_next ?_ (F.args_tuple_iterator_next_1 _)));show wpAny _ _ (field (.ref it) 0 >>= _) _ _ s;refine A0 (E5 ho hd (x:=.ref l) rfl ?_);show wpAny _ _ (if (Value.ref l==Value.none)=true then _ else _) _ _ s;rw[A5 (show ¬((Value.ref l==Value.none)=true)from A6)];show wpAny _ _ (field (.ref it) 1 >>= _) _ _ s;refine A0 (E5 ho hd (x:=.int i 0) rfl ?_);show wpAny _ _ (seqItems? (.ref l) >>= _) _ _ s;refine A0 (wpAny_seqItems hol hdl ?_);simp only[Int.toNat_natCast,hx];refine A0 (O3 ho hd (by simp) (A3 ⟨x,rfl,A3 (hQ _ ?_ (U5 ..))⟩));exact⟨_,E9 _ ho (Y8 (J5 hd _)),(Obj.cls_mapFields ..).trans hc,by rw[J5 hd];simp[rawInt]⟩
theorem uZ{it l:Addr}{i:Nat}{items}{Q:Value->Shared->Prop}(hh:A.handled=none)(hit:s.heap.IsTupleIter it l i)(hl:s.heap.IsTuple l items)(hx:items[i]?=none)
 (hE:∀h' e,Heap.ExtBut it s.heap h'->(∃o,h'.get? e=some o/\o.cls=.type "StopIteration")->E (.ref e) { s with heap:=h' }):wpAny (model prog w) A (Builtin.SmallTypes.nextOf (.ref it)) Q E s:=by
 obtain⟨o,ho,hc,hd⟩:=id hit;obtain⟨ol,hol,_,nl,hdl⟩:=hl;unfold Builtin.SmallTypes.nextOf;refine A0 (J7 (name:=Str.ofString "__next__") hit.typeIs S7 (F7 S7 hit.typeIs F.entry_tuple_iterator_next ?_ (F.args_tuple_iterator_next_1 _)));show wpAny _ _ (field (.ref it) 0 >>= _) _ _ s;refine A0 (E5 ho hd (x:=.ref l) rfl ?_);show wpAny _ _ (if (Value.ref l==Value.none)=true then _ else _) _ _ s;rw[A5 (show ¬((Value.ref l==Value.none)=true)from A6)];show wpAny _ _ (field (.ref it) 1 >>= _) _ _ s;refine A0 (E5 ho hd (x:=.int i 0) rfl ?_);show wpAny _ _ (seqItems? (.ref l) >>= _) _ _ s;refine A0 (wpAny_seqItems hol hdl ?_);simp only[Int.toNat_natCast,hx];refine A0 (wpAny_rule (A0 (O3 ho hd (by simp) ?_)));show wpAny _ _ (newExc (.type "StopIteration") [] >>= _) _ _ _;refine A0 ?_;simp only[newExc,newTuple];refine A0 (C9 ?_ (by size_fits));refine A0 (m:=firstArgMember _ _) (wpAny_of_eq (a:=Value.none) (by first|rfl|(simp only[firstArgMember];rfl)) ?_);refine C9 ?_ (by size_fits);simp only[raiseNew];refine A0 (wpAny_handled ?_)
 first|rw[show A.in1.handled=none from hh]|rw[hh]
 refine A0 (A3 (wpAny_throw ?_));exact hE _ _ (((U5 ..).extBut.push _).push _) ⟨_,B0 _ rfl,rfl⟩
end
theorem TM{prog:Program}{w:World}{A:Around}(hh:A.handled=none)(it l:Addr)(hne:l≠it)(items:Array Value):
 Draws prog w A it [it,l] items.size (fun i v=>items[i]?=some v) (fun i h=>h.IsTupleIter it l i/\h.IsTuple l items) where
 live:=fun _ _ st=>let⟨o,ho,_⟩:=st.1;⟨o,ho⟩
 frame:=fun _ _ _ st hk=>⟨st.1.at fun o e=>hk it (by simp) o e,let⟨o,ho,r⟩:=st.2;⟨o,hk l (by simp) o ho,r⟩⟩
 item:=fun i s Q E hi st hQ=>by
  refine CN st.1 st.2 (x:=items[i]) (by simp[hi]) fun h' hit' hs'=>?_;exact hQ _ h' s.toks (by simp[hi]) ⟨hit',let⟨o,ho,r⟩:=st.2;⟨o,(hs'.2 l hne).trans ho,r⟩⟩ hs'
 done:=fun s Q E st hE=>uZ hh st.1 st.2 (by simp) hE
theorem AM(l:Addr)(items:Array Value)(n:Nat)(dct:Option Addr)(sl:Array (Option Value)):
 Meets (Builtin.«enumerate.__new__» ⟨[.type "enumerate",.ref l],[]⟩) (fun _ R s=>s.heap.get? l=some { cls:=.type "tuple",dict:=dct,data:=.seq items n,slots:=sl } /\
  R (.ok (.ret (.ref (s.heap.push { cls:=.type "tuple_iterator",data:=.fields #[.ref l,.int 0 0] }).objs.size)))
   { s with heap:=(s.heap.push { cls:=.type "tuple_iterator",data:=.fields #[.ref l,.int 0 0] }).push { cls:=.type "enumerate",data:=.fields #[.none,.bool false,.ref s.heap.objs.size,rawInt 0,.none,.none] } }):=
 .of_wp fun prog w A R s h=>by
  obtain⟨hp,g,d,tk,os⟩:=s;obtain⟨hl,h⟩:=h;have hsub:=sub_enumerate;have hL:Heap.IsTuple (Shared.heap ⟨hp,g,d,tk,os⟩) l items:=⟨_,hl,rfl,n,rfl⟩
  wp_walk using U8 hl
  refine wpAny_stack_any fun st=>A3 ?_;split
  .rename_i c _ _ _ _ _;cases (c==Value.type "enumerate")
   .wp_walk using U8 hl,A0d hL
    exact⟨_,rfl,h⟩
   .wp_walk using U8 hl,A0d hL
    exact⟨_,rfl,h⟩
  .wp_walk using U8 hl,A0d hL
   exact⟨_,rfl,h⟩
section
variable{prog:Program}{w:World}{A:Around}{E:Value->Shared->Prop}{s:Shared}
theorem CB{l:Addr}{items:Array Value}{Q:Value->Shared->Prop}(hL:s.heap.IsTuple l items)
 (h:∀h',IsEnum h' (s.heap.objs.size+1) s.heap.objs.size 0 .none->h'.IsTupleIter s.heap.objs.size l 0->h'.objs.size=s.heap.objs.size+2->
  (∀b o,s.heap.get? b=some o->h'.get? b=some o)->Q (.ref (s.heap.objs.size+1)) { s with heap:=h' }):
 wpAny (model prog w) A (call (.type "enumerate") [.ref l]) Q E s:=by
 obtain⟨⟨c,dct,dt,sl⟩,hl,hc,n,hd⟩:=hL
 replace hc:c=.type "tuple":=hc
 replace hd:dt=.seq items n:=hd
 subst hc hd
 refine callType_new F.called_enumerate (by decide) (F.typeCall_enumerate_1 _) (F.newCall_enumerate_1 _) (fun obj=>F.args_object_init_2 obj _) F.entry_enumerate_new
  (AM l items n dct sl) ⟨hl,?_⟩
 have hz:(s.heap.push { cls:=.type "tuple_iterator",data:=.fields #[.ref l,.int 0 0] }).objs.size=s.heap.objs.size+1:=O2 ..;show _/\_;rw[hz]
 have he:IsEnum ((s.heap.push { cls:=.type "tuple_iterator",data:=.fields #[.ref l,.int 0 0] }).push
  { cls:=.type "enumerate",data:=.fields #[.none,.bool false,.ref s.heap.objs.size,rawInt 0,.none,.none] }) (s.heap.objs.size+1) s.heap.objs.size 0 .none:=by
  have:=B0 (s.heap.push { cls:=.type "tuple_iterator",data:=.fields #[.ref l,.int 0 0] })
   (o:={ cls:=.type "enumerate",data:=.fields #[.none,.bool false,.ref s.heap.objs.size,rawInt 0,.none,.none] }) rfl
  rw[hz]at this;exact this
 refine⟨⟨_,he,rfl⟩,h _ he ⟨_,A2 _ (B0 _ rfl),rfl,rfl⟩ (by rw[O2,hz]) fun b o x=>A2 _ (A2 _ x)⟩
end
end PySem
namespace L2
open PySem PySem.Spec PyProof.Rows
section
variable{X:Cx}{pins:List (Addr×Obj)}{σ:St}{H:Hp}{s:Shared}{h':Heap}
theorem Inv.turnLay{fp:List Addr}{a:Addr}{o:HO}{t':Nat}(I:Inv X pins σ H s)(hf:∀b∈fp,mT X pins H b)(k:∀b u,b∉fp->s.heap.get? b=some u->h'.get? b=some u)(hp:s.heap.objs.size<=a)(new:cK X.prog X.w (upd H a o) h' a o):
 Inv X pins σ (upd H a o) { s with heap:=h',toks:=t' }:=by
 have hn:H a=none:=I.hok.fresh hp;have nf:∀b u,H b=some u->b∉fp:=fun b u e z=>by rw[(hf b z).1]at e;cases e
 refine I.step (g':=s.gens) (d':=s.drawn) (ch:=fp) (fun b hb=>?_) (fun b o _ _ hc e _=>k b o hc e) (fun b o _ _ hc e _=>⟨o.slots,k b o hc e⟩) (fun b o _ e n=>?_) (fun b o hc e=>⟨o,k b o hc e⟩)
  (fun b xs e=>?_) (fun b o u e=>?_) (fun b ps e=>⟨#[],?_⟩) (fun m hm=>?_) ?_ I.bare
 .obtain⟨_,f1,_,f3,f4,f5⟩:=hf b hb;exact⟨f3,f1,f4,f5⟩
 .rw[aJ (fun z=>by subst z;exact absurd (A8 e) (Nat.not_lt.mpr hp))];exact n
 .rw[aJ (aO e hn)];exact e
 .rw[aJ (aO e hn)];exact e
 .rw[aJ (aO e hn)];simpa using e
 .obtain⟨o,es,ep,ho,r⟩:=hm;exact⟨o,es,ep,k _ o (fun z=>(hf _ z).2.1 rfl) ho,r⟩
 .intro b u e;by_cases hb:b=a
  .subst hb;rw[aP]at e;cases e;exact new
  .rw[aJ hb]at e;refine(I.hok b u e).stay (fun c v hc q=>k c v ?_ q) (fun c q=>by rw[aJ (aO q hn)];exact q) fun c xs q=>by rw[aJ (aO q hn)];exact q
   rcases hc with z|z
   .rw[z];exact nf b _ e
   .exact nf c _ z
theorem Inv.turnF{fp:List Addr}{t':Nat}(I:Inv X pins σ H s)(hf:∀b∈fp,mT X pins H b)(k:∀b u,b∉fp->s.heap.get? b=some u->h'.get? b=some u):Inv X pins σ H { s with heap:=h',toks:=t' }:=by
 have nf:∀b u,H b=some u->b∉fp:=fun b u e z=>by rw[(hf b z).1]at e;cases e
 refine I.step (g':=s.gens) (d':=s.drawn) (ch:=fp) (fun b hb=>?_) (fun b o _ _ hc e _=>k b o hc e) (fun b o _ _ hc e _=>⟨o.slots,k b o hc e⟩) (fun _ _ _ _ n=>n) (fun b o hc e=>⟨o,k b o hc e⟩)
  (fun _ _ e=>e) (fun _ _ _ e=>e) (fun b ps e=>⟨#[],by simpa using e⟩) (fun m hm=>?_) (fun b u e=>?_) I.bare
 .obtain⟨_,f1,_,f3,f4,f5⟩:=hf b hb;exact⟨f3,f1,f4,f5⟩
 .obtain⟨o,es,ep,ho,r⟩:=hm;exact⟨o,es,ep,k _ o (fun z=>(hf _ z).2.1 rfl) ho,r⟩
 .refine(I.hok b u e).stay (fun c v hc q=>k c v ?_ q) (fun _ q=>q) fun _ _ q=>q;rcases hc with z|z
  .rw[z];exact nf b _ e
  .exact nf c _ z
end
noncomputable def Ite(Sq:Hp->List V->Prop):It:=
 ⟨fun i H=>∃xs x,Sq H xs/\xs[i]?=some x,fun i H v H'=>∃p x,H p=none/\v=.ref p/\H'=upd H p (.tup [.int i,x])/\∀xs,Sq H xs->xs[i]?=some x,fun i H=>∃xs,Sq H xs/\xs.length=i⟩
noncomputable def tnE(e it:Addr)(It:Heap->Nat->Prop)(i:Nat)(h:Heap):Prop:=(∃old,IsEnum h e it i old)/\It h i
section
variable{P:Program}{w:World}{K:Fg}{elts:List Expr}{x1:Nat}{tpos:Pos}
theorem EI{e it a:Addr}{Sq:Hp->List V->Prop}{It:Heap->Nat->Prop}(hei:e≠it)
 (hobj:∀h i,It h i->∃o vs,h.get? it=some o/\o.data=.fields vs) (hkeep:∀h h' i,It h i->(∀o,h.get? it=some o->h'.get? it=some o)->It h' i)
 (hinj:∀(X:Cx),X.K=K->∀pins σ H s,Inv X pins σ H s->∀xs ys,Sq H xs->Sq H ys->xs=ys)
 (draw:∀(X:Cx),X.prog=P->X.w=w->X.K=K->X.calm=true->∀pins σ H s,Inv X pins σ H s->∀xs,Sq H xs->(∃o vs,s.heap.get? it=some o/\o.data=.fields vs)->(∃o vs,s.heap.get? e=some o/\o.data=.fields vs)->∃(its:List Value)(fp:List Addr)(S:Nat->Heap->Prop),bC xs its/\e∉fp /\
  Draws P w X.A.in1 it fp its.length (fun i v=>its[i]?=some v) S/\(∀i,It s.heap i->S i s.heap)/\∀i h,S i h->It h i):
 Turn P w K (.Tuple elts x1 tpos) (Ite Sq) [e,it] e (tnE e it It) where
 mem:=by simp
 obj:=fun i h st b hb=>by
  obtain⟨⟨old,h1⟩,h2⟩:=st;rcases List.mem_cons.mp hb with rfl|hb
  .exact⟨_,h1,fun v z=>by cases z⟩
  .obtain⟨o,vs,q1,q2⟩:=hobj _ _ h2;rw[List.mem_singleton.mp hb];exact⟨o,q1,fun v z=>by rw[q2]at z;cases z⟩
 keep:=fun i h h' st k=>by
  obtain⟨⟨old,h1⟩,h2⟩:=st;exact⟨⟨old,k e (by simp) _ h1⟩,hkeep _ _ _ h2 fun o q=>k it (by simp) o q⟩
 item:=by
  intro X hP hw hK hc i pins s σ H E I hf st hg;obtain⟨xs,x,hq,hx⟩:=hg;obtain⟨⟨old,he⟩,hit⟩:=st;obtain⟨its,fp,S,rv,hef,D,s1,s2⟩:=draw X hP hw hK hc pins σ H s I xs hq (hobj _ _ hit) ⟨_,_,he,rfl⟩;subst hP hw hK;obtain⟨u,hu,ru⟩:=rv.get hx;have hlt:i<its.length:=(List.getElem?_eq_some_iff.mp hu).1;refine wpAny_pyNext_enum_itemD D he (s1 _ hit) hlt hei hef fun v h1 tk hv ho st1 ht hsz hk=>⟨_,rfl,?_⟩;rw[hu]at hv;cases hv;refine wpAny_letOwnedTupleGo_enum ho fun h2 he2 sb=>?_;have ne:s.heap.objs.size≠e:=F9 (A8 he);have ht2:h2.get? s.heap.objs.size=some { cls:=.type "tuple",data:=.seq #[.int i tk,u] }:=(sb.2 _ ne).trans ht
  have I2:Inv X pins σ (upd H s.heap.objs.size (.tup [.int i,x])) { s with heap:=h2,toks:=tk+1 }:=by
   refine I.turnLay hf (fun b o hb q=>(sb.2 b fun z=>hb (by simp[z])).trans (hk b o (fun z=>hb (by simp[z])) (fun z=>hb (by simp[z])) q)) (A7 _) ⟨by show 2<=sizeLine;rw[D5];decide,[.int i tk,u],.cons ⟨tk,rfl⟩ (.cons ru .nil),⟨_,ht2,rfl,_,rfl⟩⟩
  refine⟨.ref s.heap.objs.size,_,I2,rfl,⟨_,x,I.hok.fresh (A7 _),rfl,rfl,fun ys hy=>by rw[hinj X rfl _ _ _ _ I ys xs hy hq];exact hx⟩,⟨⟨_,by have:=he2;push_cast;exact this⟩,?_⟩,fun b hb=>?_⟩
  .exact hkeep _ _ _ (s2 _ _ st1) fun o q=>(sb.2 it (F0 hei)).trans q
  .have hb0:=(hf b hb).1;rw[aJ (fun z=>?_)]
   .exact hb0
   .subst z;rcases List.mem_cons.mp hb with q|q
    .exact ne q
    .obtain⟨o,vs,q1,_⟩:=hobj _ _ hit;rw[<- List.mem_singleton.mp q]at q1;exact absurd (A8 q1) (F8 _)
 done:=by
  intro X hP hw hK hc i pins s σ H E I hf st hg;obtain⟨xs,hq,hx⟩:=hg;obtain⟨⟨old,he⟩,hit⟩:=st;obtain⟨its,fp,S,rv,hef,D,s1,s2⟩:=draw X hP hw hK hc pins σ H s I xs hq (hobj _ _ hit) ⟨_,_,he,rfl⟩;subst hP hw hK;have hl:=rv.length;rw[hl]at hx;subst hx;exact wpAny_pyNext_enum_endD D he (s1 _ hit) fun h1 hx=>⟨rfl,I.turnF (t':=s.toks) hf fun b o hb q=>hx b o (fun z=>hb (by simp[z])) q⟩
 self:=fun A i s Q E st h=>by
  obtain⟨⟨old,he⟩,_⟩:=st;exact wpAny_pyIter_enum he h
theorem LG{e it a:Addr}(hei:e≠it):Turn P w K (.Tuple elts x1 tpos) (Ite fun H xs=>SqL K H a xs) [e,it] e (tnE e it fun h i=>h.IsListIter it a i):=by
 refine EI (a:=a) hei (fun h i st=>?_) (fun h h' i st k=>st.at k) (fun X hK pins σ H s I xs ys h1 h2=>?_) fun X hP hw hK hc pins σ H s I xs hq hi he=>?_
 .obtain⟨o,q,_,d⟩:=st;exact⟨o,_,q,d⟩
 .subst hK;exact I.list_inj h1 h2
 .subst hP hw hK;obtain⟨its,rv,p,hz⟩:=I.list hq
  have ne:∀b,(∃o vs,s.heap.get? b=some o/\o.data=.fields vs)->a≠b:=fun b ⟨o,vs,q,d⟩ z=>by
   subst z;obtain⟨o',q',_,n,d'⟩:=p.isList;rw[q]at q';cases q';rw[d]at d';cases d'
  refine⟨its,[it,a],fun i h=>h.IsListIter it a i/\h.IsList a its.toArray,rv,?_,?_,fun i st=>⟨st,p.isList⟩,fun i h st=>st.1⟩
  .intro z;rcases List.mem_cons.mp z with z|z
   .exact hei z
   .exact ne e he (List.mem_singleton.mp z).symm
  .have:=Draws.list (prog:=X.prog) (w:=X.w) (A:=X.A.in1) (I.ok.hd hc) it a (ne it hi) its.toArray;simpa using this
theorem LU{e it a:Addr}(hei:e≠it):Turn P w K (.Tuple elts x1 tpos) (Ite fun H xs=>SqT K H a xs) [e,it] e (tnE e it fun h i=>h.IsTupleIter it a i):=by
 refine EI (a:=a) hei (fun h i st=>?_) (fun h h' i st k=>st.at k) (fun X hK pins σ H s I xs ys h1 h2=>?_) fun X hP hw hK hc pins σ H s I xs hq hi he=>?_
 .obtain⟨o,q,_,d⟩:=st;exact⟨o,_,q,d⟩
 .subst hK;exact I.tuple_inj h1 h2
 .subst hP hw hK;obtain⟨its,rv,p,hz⟩:=I.tuple hq;have pt:s.heap.IsTuple a its.toArray:=p
  have ne:∀b,(∃o vs,s.heap.get? b=some o/\o.data=.fields vs)->a≠b:=fun b ⟨o,vs,q,d⟩ z=>by
   subst z;obtain⟨o',q',_,n,d'⟩:=pt;rw[q]at q';cases q';rw[d]at d';cases d'
  refine⟨its,[it,a],fun i h=>h.IsTupleIter it a i/\h.IsTuple a its.toArray,rv,?_,?_,fun i st=>⟨st,pt⟩,fun i h st=>st.1⟩
  .intro z;rcases List.mem_cons.mp z with z|z
   .exact hei z
   .exact ne e he (List.mem_singleton.mp z).symm
  .have:=TM (prog:=X.prog) (w:=X.w) (A:=X.A.in1) (I.ok.hd hc) it a (ne it hi) its.toArray;simpa using this
end
section
variable{X:Cx}{elts:List Expr}{x1:Nat}{tpos:Pos}
noncomputable def aDp(K:Fg)(ta:TA):TI:=fun σ H R=>ta σ H fun vs H1=>∃a,vs=[.ref a]/\((∃xs,SqL K H1 a xs/\R (Ite fun H xs=>SqL K H a xs) H1)\/(∃xs,SqT K H1 a xs/\R (Ite fun H xs=>SqT K H a xs) H1))
theorem aBp{a:Expr}{ta:TA}{p pos:Pos}(hg:Gl X "enumerate")(hm:X.mg "enumerate"=none)(ha:PA X [a] ta)(hs:starEach [a] X.env=[(false,eval a X.env)]:=by rfl):PI X (.Tuple elts x1 tpos) (.Call (.Name "enumerate" p) [a] [] pos) (aDp X.K ta):=by
 intro pins s σ H R I h;refine Call_ (tK I hg hm boot_enumerate (Z2 (thn (ha pos pins s σ H _ I h) fun us s1 ⟨vs,H1,I1,r1,q1⟩=>?_) hs rfl));obtain⟨l,e,q⟩:=q1;subst e;cases r1 with
 |cons r rr=>
  cases rr;cases (show _=Value.ref l from r)
  have fp:∀b∈[s1.heap.objs.size+1,s1.heap.objs.size],mT X pins H1 b:=fun b hb=>by
   rcases List.mem_cons.mp hb with rfl|hb
   .exact I1.fpOk (Nat.le_succ _) (I1.hok.fresh (Nat.le_succ _))
   .rw[List.mem_singleton.mp hb];exact I1.fpOk (A7 _) (I1.hok.fresh (A7 _))
  rcases q with⟨xs,hq,q⟩|⟨xs,hq,q⟩
  .obtain⟨its,rv,p,hz⟩:=I1.list hq;refine call_enumerate_list p.isList fun h' he hit hsz hk=>?_;refine wpAny_pyIter_enum he ?_;exact⟨_,_,_,_,H1,rfl,I1.kept (t':=s1.toks) hk,LG (a:=l) (Nat.succ_ne_self _),⟨⟨_,he⟩,hit⟩,fp,q⟩
  .obtain⟨its,rv,p,hz⟩:=I1.tuple hq;refine CB (show s1.heap.IsTuple l its.toArray from p) fun h' he hit hsz hk=>?_;refine wpAny_pyIter_enum he ?_;exact⟨_,_,_,_,H1,rfl,I1.kept (t':=s1.toks) hk,LU (a:=l) (Nat.succ_ne_self _),⟨⟨_,he⟩,hit⟩,fp,q⟩
end
end L2
namespace PySem
open PySem.Calls PyProof.Rows
noncomputable abbrev sM(x:Value)(f:Bool)(d:Addr)(i n ep:Nat)(p q:Value):Obj:=
 { cls:=.type "dict_itemiterator",dict:=none,data:=.fields #[x,.bool f,.ref d,.int i 0,.int n 0,.int ep 0,p,q],slots:=#[] }
noncomputable abbrev duo(e:DictEntry):Obj:={ cls:=.type "tuple",data:=.seq #[e.key,e.val] }
noncomputable def EH(h:Heap)(it d:Addr)(i n ep:Nat):Prop:=
 ∃x f p q,h.get? it=some (sM x f d i n ep p q)/\(x=.none\/∃a o,x=rawInt (a:Nat)/\h.get? a=some o)
noncomputable def Raw(h:Heap)(d:Addr)(es:Array DictEntry)(ep:Nat):Prop:=∃o,h.get? d=some o/\o.data=.dict es ep
theorem Raw.to{h h':Heap}{d:Addr}{es:Array DictEntry}{ep:Nat}(r:Raw h d es ep)(k:∀o,h.get? d=some o->h'.get? d=some o):Raw h' d es ep:=let⟨o,e,x⟩:=r;⟨o,k o e,x⟩
section
variable{prog:Program}{w:World}{A:Around}{E:Value->Shared->Prop}{s:Shared}{it d v:Addr}{es:Array DictEntry}{i n ep:Nat}
theorem MN(d:Addr)(hd:(d==sysModules)=false):MeetsIn prog w (Builtin.«dict.items» ⟨[.ref d],[]⟩) fun _ R s=>s.TypeIs (.ref d) "dict" /\
 R (.ok (.ret (.ref s.heap.objs.size))) { s with heap:=s.heap.push { cls:=.type "dict_items",data:=.fields #[.ref d] } }:=
 .of_wp fun A R s ⟨ty,h⟩=>by
  have q:Builtin.Dict.showsAll d=pure ():=by unfold Builtin.Dict.showsAll;rw[hd];rfl
  show wpAny _ _ (Builtin.Dict.noArgs _ _ >>= fun _=>_) _ _ s;unfold Builtin.Dict.noArgs;refine A0 (A0 (wpAny_notOrdered_dict ty (A3 (?_:wpAny _ _ (Builtin.Dict.showsAll d >>= _) _ _ s))));rw[q];exact A0 (A3 (A0 (C9 (A3 ⟨_,rfl,h⟩))))
theorem NI{Q:Value->Shared->Prop}(hv:s.heap.IsItemsView v d)(r:Raw s.heap d es ep)
 (h:Q (.ref s.heap.objs.size) { s with heap:=s.heap.push (sM .none false d 0 es.size ep .none .none) }):wpAny (model prog w) A (pyIter (.ref v)) Q E s:=by
 obtain⟨ov,v1,v2,v3⟩:=id hv;obtain⟨o,r1,r2⟩:=r;refine wpAny_pyIter_slot hv.typeIs F.slot_dict_items_iter (F7 F.slot_dict_items_iter hv.typeIs F.entry_dict_items_iter (A0 (A3 (A0 (?_:wpAny _ _ (field (.ref v) 0 >>= _) _ _ s)))) (F.args_dict_items_iter_1 _));refine A0 (E5 v1 v3 (x:=.ref d) rfl (A3 (A0 (?_:wpAny _ _ (Builtin.Dict_items.newIterator _ d) _ _ s))));refine A0 (wpAny_dictEntries r1 r2 (A0 (wpAny_dictEpoch r1 r2 ?_)));rw[show Builtin.Dict_items.ownsTuple "dict_itemiterator"=true from by decide];refine C9 (A3 ⟨_,rfl,_,_,⟨_,B0 _ rfl,rfl⟩,F.slot_dict_itemiterator_next.lookup,?_⟩) (by simp[sizeOk,Builtin.Dict_items.ownedTupleFields,sizeLine_eq]);exact h
theorem aAg{e:DictEntry}{Q:Value->Shared->Prop}(st:EH s.heap it d i n ep)
 (h:∀h',EH h' it d i n ep->h'.get? s.heap.objs.size=some (duo e)->(∀b o,b≠it->s.heap.get? b=some o->h'.get? b=some o)->Q (.ref s.heap.objs.size) { s with heap:=h' }):
 wpAny (model prog w) A (Builtin.Dict_items.pairFromOwner (.ref it) 6 e.key e.val) Q E s:=by
 obtain⟨H,g,dr,tk,os⟩:=s;obtain⟨x,f,p,q,w0,hx⟩:=st;have lt:it<H.objs.size:=A8 w0;have new:(H.push (duo e)).get? H.objs.size=some (duo e):=B0 _ rfl;have old:∀b o,H.get? b=some o->(H.push (duo e)).get? b=some o:=fun b o=>A2 _;refine A0 (wpAny_newTuple ?_);show wpAny _ _ (Builtin.Dict_items.ownedTupleIsFree (.ref it) >>= _) _ _ ⟨H.push (duo e),g,dr,tk,os⟩;generalize H.push (duo e)=G at new old ⊢;have w1:=old it _ w0
 have fin:∀h' x' f' p' q',h'.get? it=some (sM x' f' d i n ep p' q')->(x'=.none\/∃a o,x'=rawInt (a:Nat)/\G.get? a=some o)->Heap.SameBut it G h'->Q (.ref H.objs.size) ⟨h',g,dr,tk,os⟩:=by
  intro h' x' f' p' q' k1 k2 k3;refine h h' ⟨x',f',p',q',k1,k2.imp id ?_⟩ (k3.extBut _ _ (F9 lt) new) fun b o nb e=>k3.extBut b o nb (old b o e);rintro⟨a,o,ea,eo⟩;by_cases c:a=it
  .exact⟨a,_,ea,c▸k1⟩
  .exact⟨a,o,ea,k3.extBut a o c eo⟩
 unfold Builtin.Dict_items.ownedTupleIsFree;refine A0 (A0 (E5 w1 rfl (x:=x) rfl ?_));rcases hx with rfl|⟨a,o,rfl,ea⟩
 .refine A3 (A0 (E5 w1 rfl (x:=p) rfl (A0 (E5 w1 rfl (x:=q) rfl (A0 (O5 w1 (by simp) fun h1 w2 k2=>?_))))));refine A0 (O5 w2 (by simp) fun h2 w3 k3=>A0 (O5 w3 (by simp) fun h3 w4 k4=>A0 (O5 w4 (by simp) fun h4 w5 k5=>?_)));exact A0 (wpAny_letGo (A3 (fin h4 _ _ _ _ w5 (.inr ⟨_,_,rfl,new⟩) (((k2.trans k3).trans k4).trans k5))))
 .have al:(loadIfAlive ((a:Int).toNat):Sem (Option Obj))=loadIfAlive a:=by rw[U6]
  show wpAny _ _ (loadIfAlive ((a:Int).toNat) >>= _) _ _ _;rw[al];refine A0 (W.kdx_alive (old a o ea) ?_);show wpAny _ _ (field (.ref it) 1 >>= _) _ _ _;refine A0 (E5 w1 rfl (x:=.bool f) rfl ?_);cases f
  .exact A0 (O5 w1 (by simp) fun h1 w2 k2=>A3 (A3 (fin h1 _ _ _ _ w2 (.inr ⟨a,o,rfl,old a o ea⟩) k2)))
  .exact A3 (A3 (fin G _ _ _ _ w1 (.inr ⟨a,o,rfl,old a o ea⟩) (Heap.SameBut.refl _ _)))
theorem NA{Q:Option Value->Shared->Prop}(hh:A.handled=none)(st:EH s.heap it d i es.size ep)(r:Raw s.heap d es ep)(ne:d≠it)
 (h1:∀e,es[i]?=some e->∀h',EH h' it d (i+1) es.size ep->h'.get? s.heap.objs.size=some (duo e)->(∀b o,b≠it->s.heap.get? b=some o->h'.get? b=some o)->Q (some (.ref s.heap.objs.size)) { s with heap:=h' })
 (h2:es[i]?=none->∀h',Heap.ExtBut it s.heap h'->Q none { s with heap:=h' }):wpAny (model prog w) A (pyNext (.ref it)) Q E s:=by
 obtain⟨H,g,dr,tk,os⟩:=s;obtain⟨x,f,p,q,w0,hx⟩:=st;obtain⟨od,r1,r2⟩:=r;have ty:Shared.TypeIs ⟨H,g,dr,tk,os⟩ (.ref it) "dict_itemiterator":=⟨_,w0,rfl⟩;have own:Builtin.Dict_items.ownsTuple "dict_itemiterator"=true:=by decide
 unfold pyNext;refine A0 (wpAny_attempt (J7 ty F.slot_dict_itemiterator_next (F7 F.slot_dict_itemiterator_next ty F.entry_dict_itemiterator_next (A0 (A3 (A0 (A0 ?_)))) (F.args_dict_itemiterator_next_1 _))));refine A0 (Z3 ty (A3 (A0 (wpAny_fieldsOf w0 rfl ?_))));rw[own];refine A0 (A3 (A0 (wpAny_dictEntries r1 r2 ?_)));rw[A5 (by simp)];refine A0 (A3 (A0 (wpAny_dictEpoch r1 r2 ?_)));rw[A5 (by simp)];refine A3 ?_;have pl:(if (i:Int)<0 then none else es[(i:Int).toNat]?)=es[i]?:=by rw[A5 (by omega),U6]
 simp only[pl];cases c:es[i]? with
 |some e=>
  refine A0 (A0 (Z3 ty (A3 (A0 (wpAny_isOneOf_itemiter ty ?_)))));refine A0 (O5 w0 (k:=3) (x:=rawInt ((i:Int)+1)) (by simp) fun h' w1 k1=>A0 (D4 ?_))
  have st1:EH h' it d (i+1) es.size ep:=by
   refine⟨x,f,p,q,w1,hx.imp id fun⟨a,o,ea,eo⟩=>?_⟩;by_cases c:a=it
   .exact⟨a,_,ea,c▸w1⟩
   .exact⟨a,o,ea,k1.extBut a o c eo⟩
  have ty1:Shared.TypeIs ⟨h',g,dr,tk,os⟩ (.ref it) "dict_itemiterator":=⟨_,w1,rfl⟩;refine A0 (wpAny_isOneOf_itemiter ty1 (A0 (wpAny_isOneOf_itemiter ty1 (aAg (e:=e) st1 fun h'' st2 t2 k2=>?_))));have sz:h'.objs.size=H.objs.size:=k1.1;refine A3 ⟨_,rfl,A3 ?_⟩;rw[sz]at t2 ⊢;exact h1 e c h'' st2 t2 fun b o nb eb=>k2 b o nb (k1.extBut b o nb eb)
 |none=>
  refine A0 (A0 (Z3 ty (A3 (A0 (O3 w0 (i:=2) (x:=.none) rfl (by simp) (A0 ?_))))));simp only[newExc,newTuple];refine A0 (C9 (A0 (m:=firstArgMember _ _) (wpAny_of_eq (a:=Value.none) (by simp only[firstArgMember];rfl) (C9 ?_ (by size_fits)))) (by size_fits));simp only[raiseNew];refine A0 (wpAny_handled ?_);rw[show A.in1.handled=none from hh];refine A0 (A3 (wpAny_throw ?_));refine A0 (wpAny_isInstance (b:=true) (T:="StopIteration") ⟨_,B0 _ rfl,rfl⟩ isSubtype_stop ?_);exact A3 (h2 c _ (((U5 ..).extBut.push _).push _))
end
structure Handed(es:Array DictEntry)(lo:Addr)(h:Heap)(as:List Addr):Prop where
 rise:as.Pairwise (·<·)
 above:∀a∈as,lo<a
 duos:∀(j:Nat)(a:Addr),as[j]?=some a->∃e,es[j]?=some e/\h.get? a=some (duo e)
theorem Handed.to{es:Array DictEntry}{lo lo':Addr}{h h':Heap}{as:List Addr}(g:Handed es lo h as)(l:lo'<=lo)(k:∀a o,lo<a->h.get? a=some o->h'.get? a=some o):Handed es lo' h' as:=
 ⟨g.rise,fun a ha=>L4 l (g.above a ha),fun j a ha=>let⟨e,x,y⟩:=g.duos j a ha;⟨e,x,k a _ (g.above a (List.mem_of_getElem? ha)) y⟩⟩
theorem Handed.more{es:Array DictEntry}{lo a:Addr}{h:Heap}{as:List Addr}{e:DictEntry}(g:Handed es lo h as)(up:∀b∈as,b<a)(hl:lo<a)(he:es[as.length]?=some e)(ha:h.get? a=some (duo e)):Handed es lo h (as++[a]):=by
 refine⟨List.pairwise_append.mpr ⟨g.rise,List.pairwise_singleton _ _,fun b hb c hc=>by rw[List.mem_singleton.mp hc];exact up b hb⟩,fun b hb=>?_,fun j b hj=>?_⟩
 .exact(List.mem_append.mp hb).elim (g.above b) fun q=>List.mem_singleton.mp q▸hl
 .rw[List.getElem?_append]at hj;split at hj
  .exact g.duos j b hj
  .have z:j-as.length=0:=by
    have:=(List.getElem?_eq_some_iff.mp hj).1;simp at this;omega
   rw[z]at hj;cases hj;exact⟨e,by rw[show j=as.length by omega];exact he,ha⟩
noncomputable abbrev rowOf(acc:Array Value)(c:Nat):Obj:={ cls:=.type "list",dict:=none,data:=.seq acc c,slots:=#[] }
section
variable{prog:Program}{w:World}{A:Around}{E:Value->Shared->Prop}{s:Shared}{S I d v:Addr}{es:Array DictEntry}{ep:Nat}{R:Result->Shared->Prop}{res:Value}
theorem NK(hh:A.handled=none)(hI:S<I)(dS:d≠S)(dI:d≠I)(hn:es.size<=sizeLine):
 ∀(m i:Nat)(h:Heap)(tk c:Nat)(acc:Array Value)(as:List Addr),i+m=es.size->EH h I d i es.size ep->Raw h d es ep->h.get? S=some (rowOf acc c)->acc.toList=as.map Value.ref->as.length=i->Handed es I h as->I<h.objs.size->
  (∀h' tk acc c as,(∀b o,b≠S->b≠I->h.get? b=some o->h'.get? b=some o)->h'.get? S=some (rowOf acc c)->as.length=es.size->Handed es I h' as->acc.toList=as.map Value.ref->R (.ok (.ret res)) { s with heap:=h',toks:=tk })->
  codeAny (model prog w) A (.builtin "list.extend.loop" ⟨[.ref S,.ref I,res],[]⟩) R { s with heap:=h,toks:=tk }:=by
 intro m
 induction m using Nat.strongRecOn with
 |_ m ih=>
  intro i h tk c acc as em st r hS ea el hG lI fin;have nS:S≠I:=B6 hI;refine Z9 PySem.F.entry_extend_loop ?_;rw[S8 S4 _];refine A0 (NA (A:=A.in1) (s:={ s with heap:=h,toks:=tk }) hh st r dI (fun e he h1 st1 t1 k1=>?_) fun he h1 k1=>?_)
  .have mi:i<es.size:=(Array.getElem?_eq_some_iff.mp he).1;have za:acc.size=i:=by rw[<- S5,ea,A9,el]
   have lS:S<h.objs.size:=A8 hS;have hS1:=k1 S _ nS hS;have sv:∀b o,b≠S->h1.get? b=some o->(h1.update S (Obj.mapSeq (·.push (Value.ref h.objs.size)))).get? b=some o:=fun b o nb e=>(D9 _ _ (F0 nb)).trans e;have hS2:=E9 (Obj.mapSeq (·.push (Value.ref h.objs.size))) hS1 rfl;have tp:=sv _ _ (F9 lS) t1;refine A0 (wpAny_updateSeq (f:=(·.push (Value.ref h.objs.size))) hS1 rfl (A3 ⟨Z5 S4 _,?_⟩) (by rw[za];omega) (by show(acc.push _).size<=_;rw[Array.size_push,za];omega))
   refine ih (m-1) (by omega) (i+1) _ tk _ (acc.push (Value.ref h.objs.size)) (as++[h.objs.size]) (by omega) ?_ (r.to fun o e=>sv d o dS (k1 d o dI e)) hS2 (by rw[Array.toList_push,ea,D8];rfl) (by rw[B2,el];rfl)
    ((hG.to (A7 _) fun a o la e=>sv a o (F9 (O1 hI la)) (k1 a o (F9 la) e)).more (fun b hb=>?_) lI (by rw[el];exact he) tp) (O1 lI (A8 tp))
    fun h' tk' acc' c' as' k=>fin h' tk' acc' c' as' fun b o b1 b2 e=>k b o b1 b2 (sv b o b1 (k1 b o b2 e))
   .obtain⟨x,f,p,q,w1,hx⟩:=st1;refine⟨x,f,p,q,sv _ _ (F0 nS) w1,hx.imp id fun⟨a,o,e1,e2⟩=>?_⟩;by_cases q:a=S
    .subst q;exact⟨a,_,e1,hS2⟩
    .exact⟨a,o,e1,sv a o q e2⟩
   .obtain⟨j,hj⟩:=List.mem_iff_getElem?.mp hb;obtain⟨_,_,y⟩:=hG.duos j b hj;exact A8 y
  .have mi:es.size<=i:=Array.getElem?_eq_none_iff.mp he;exact A3 (fin h1 tk acc c as (fun b o _ b2 e=>k1 b o b2 e) (k1 S _ nS hS) (by omega) (hG.to (A7 _) fun a o la e=>k1 a o (F9 la) e) ea)
theorem TQ{Q:List Value->Shared->Prop}(hh:A.handled=none)(hv:s.heap.IsItemsView v d)(r:Raw s.heap d es ep)(hn:es.size<=sizeLine)
 (hQ:∀(h':Heap)(tk:Nat)(as:List Addr),(∀b o,s.heap.get? b=some o->h'.get? b=some o)->as.length=es.size->Handed es s.heap.objs.size h' as->Q (as.map Value.ref) { s with heap:=h',toks:=tk }):
 wpAny (model prog w) A (collect (.ref v)) Q E s:=by
 obtain⟨H,g,dr,tk,os⟩:=s;have lv:v<H.objs.size:=let⟨_,ho,_⟩:=hv;A8 ho;have ld:d<H.objs.size:=let⟨_,ho,_⟩:=r;A8 ho;refine A0 (wpAny_runValue (Z9 entry_proto_collect' ?_));rw[S8 PySem.F.plain_proto_collect _];refine A0 (m:=newList []) (C9 (A3 ⟨Z5 PySem.F.plain_list_iadd _,Z9 entry_list_iadd' ?_⟩));rw[S8 PySem.F.plain_list_iadd _];have p0:∀b o,H.get? b=some o->(H.push (rowOf #[] 0)).get? b=some o:=fun b o e=>A2 _ e;have r0:=(B0 H (o:=rowOf #[] 0) rfl);have z0:(H.push (rowOf #[] 0)).objs.size=H.objs.size+1:=O2 ..;show wpAny _ A.in1 (Builtin.List.listExtendWith (.ref H.objs.size) (.ref v) (.ref H.objs.size)) _ _ ⟨H.push (rowOf #[] 0),g,dr,tk,os⟩;generalize H.push (rowOf #[] 0)=G at p0 r0 z0 ⊢;have lG:H.objs.size<G.objs.size:=by rw[z0];exact F5 _
 have hv1:G.IsItemsView v d:=let⟨o,a,b⟩:=hv;⟨o,p0 _ _ a,b⟩;refine A0 (Y3 (T:="dict_items") (hv1.typeIs (s:=⟨G,g,dr,tk,os⟩)) ?_);rw[show Builtin.List.listSameRef (.ref H.objs.size) (.ref v)=false from by simp[Builtin.List.listSameRef,Nat.ne_of_gt lv]];refine A0 (NI (s:=⟨G,g,dr,tk,os⟩) hv1 (r.to fun o e=>p0 d o e) (A0 (D4 (W.kdx_hint (r:=v) (let⟨o,a,b,_⟩:=hv1;⟨o,A2 _ a,b⟩) ?_))));have p1:∀b o,G.get? b=some o->(G.push (sM .none false d 0 es.size ep .none .none)).get? b=some o:=fun b o e=>A2 _ e;have r1:=B0 G (o:=sM .none false d 0 es.size ep .none .none) rfl;show wpAny _ _ _ _ _ ⟨G.push (sM .none false d 0 es.size ep .none .none),g,dr,tk,os⟩;generalize G.push (sM .none false d 0 es.size ep .none .none)=F at p1 r1 ⊢
 have go:∀h c,(∀b o,b≠H.objs.size->F.get? b=some o->h.get? b=some o)->h.get? H.objs.size=some (rowOf #[] c)->
  codeAny (model prog w) A (.builtin "list.extend.loop" ⟨[.ref H.objs.size,.ref G.objs.size,.ref H.objs.size],[]⟩) (fun r s'=>match r with|.ok (.ret v)=>wpAny (model prog w) A (match v with|.ref a=>load a >>= fun o=>(match o.data with|.seq xs _=>pure xs.toList|_=>unsupported "internal:collect")|_=>unsupported "internal:collect") Q E s'|.ok _=>False|.error e=>E e s') ⟨h,g,dr,tk,os⟩:=fun h c k hS=>
  NK (s:=⟨H,g,dr,tk,os⟩) (S:=H.objs.size) (I:=G.objs.size) hh lG (B6 ld) (B6 (O1 ld lG)) hn es.size 0 h tk c #[] [] (Nat.zero_add _) ⟨_,_,_,_,k _ _ (F9 lG) r1,.inl rfl⟩ (r.to fun o e=>k _ _ (B6 ld) (p1 _ _ (p0 _ _ e))) hS rfl rfl
   ⟨.nil,(fun _ q=>nomatch q),fun j a q=>by simp at q⟩ (A8 (k _ _ (F9 lG) r1)) fun h' tk' acc c as k' hS' el hG ea=>A0 (wpAny_load hS' (A3 (by
    rw[ea];exact hQ h' tk' as (fun b o e=>k' b o (B6 (A8 e)) (B6 (O1 (A8 e) lG)) (k b o (B6 (A8 e)) (p1 b o (p0 b o e)))) el (hG.to (S1 lG) fun _ _ _ e=>e))))
 have q0:=p1 _ _ r0;have q1:=E9 (Obj.mapSeq (·.push Value.none)) q0 rfl;refine wpAny_ite_split (fun _=>A0 (wpAny_rule (A0 (A0 (wpAny_updateSeq (f:=(·.push Value.none)) q0 rfl (wpAny_updateSeq (hz:=by seq_fits) q1 rfl (A3 ⟨Z5 S4 _,go _ _ (fun b o nb e=>?_) (E9 (Obj.mapSeq (·.pop)) q1 rfl)⟩))))))) fun _=>A3 ⟨Z5 S4 _,go _ _ (fun _ _ _ e=>e) q0⟩;rw[D9 _ _ (F0 nb),D9 _ _ (F0 nb)];exact e
end
end PySem
namespace PySem.W
open PySem PySem.Calls PyProof.Rows PyProof.V PySem.Spec
section
variable{prog:Program}{w:World}{A:Around}{E:Value->Shared->Prop}{s:Shared}{h₀:Heap}{L:Addr}{m:Str->Option Value}{news:List (Addr×Obj)}{vs:List Value}
theorem l2_tail{Q:Value->Shared->Prop}(F:Fr h₀ L s.heap m)(N:News h₀ L s.heap news)(h2:2<=vs.length)(h64:vs.length<64)
 (h:∀D e1 h',Fr h₀ L h' m->News h₀ L h' ((D,seqObj "list" #[] e1)::news)->(∀q∈news,q.1<D)->
  wpAny (model prog w) A.in1 (keyKind' vs.toArray) (fun κ s'=>(kas_sort vs.length).kasWp (kas_ask prog w A.in1 κ vs) (fun p s''=>KasFin h₀ L m D e1 (p.toList.map fun i=>vs.getD i Value.none) (fun s3=>Q (.ref D) s3) s'') s') (fun _ _=>False) { s with heap:=h' }):
 wpAny (model prog w) A (do let l <- newList vs;let _ <- holding [l] (call (.builtin "list.sort") [l]);ret l) (fun fin s'=>∃v,fin=.done (.ret v)/\Q v s') E s:=by
 refine A0 (wpAny_newList ?_ (by rw[D5];omega));have hoL:(s.heap.push (seqObj "list" vs.toArray 0)).get? s.heap.objs.size=some (seqObj "list" vs.toArray 0):=B0 _ rfl;have keep:∀b o,s.heap.get? b=some o->(s.heap.push (seqObj "list" vs.toArray 0)).get? b=some o:=fun b o q=>A2 _ q;have hL:L<s.heap.objs.size:=F.ns.lt;show wpAny _ _ _ _ _ { s with heap:=s.heap.push (seqObj "list" vs.toArray 0) };refine A0 (D4 (F7 slot_list_sort ⟨_,hoL,rfl⟩ entry_list_sort ?body (args_list_sort _)))
 case body=>
  refine kat_list_sort (s:={ s with heap:=s.heap.push (seqObj "list" vs.toArray 0) }) (F.kept keep) (N.grown keep) hoL (F9 hL) (S6 (D3 F.above (S1 hL)))
   (fun p hp=>B6 (A8 (N p hp).1)) h2 h64 fun e1 h' F' N'=>?_
  refine D0 (h _ e1 h' F' N' fun q hq=>A8 (N q hq).1) (fun κ s' hk=>?_) fun _ _ x=>x;rw[kat_ask_eq rfl]at hk ⊢;exact kas_wp_mono hk fun p s'' hk'=>hk'.mono fun s3 hq=>⟨_,rfl,A3 ⟨_,rfl,hq⟩⟩
end
end PySem.W
namespace L2
variable{A:Around}{W:Wd}{M:Sto}{H:Hp}
open PySem PySem.Spec PyProof.Rows
section
variable{X:Cx}{pins:List (Addr×Obj)}{σ:St}{H:Hp}{s:Shared}{E:Value->Shared->Prop}
noncomputable def pY(its:List Value):Sem PySem.Fin:=do let l <- newList its;let _ <- holding [l] (call (.builtin "list.sort") [l]);ret l
noncomputable def WD(K:Fg)(vs:List V)(H:Hp)(Q:VK):Prop:=
 (∃rows:List (List PyData),aK K H (rows.map .tuple) vs/\2<=rows.length/\rows.length<64/\(∀r∈rows,r.all SeqAt.shaped=true/\cJ r=true)/\(iO rows=true\/oF rows=true)/\(∀i j,i<rows.length->j<rows.length->(cQ (rows.getD i []) (rows.getD j [])).isSome=true) /\
  ∀l,H l=none->Q (.ref l) (upd H l (.lst ((dB (dX rows) rows.length).map fun i=>vs.getD i .non))))\/(vs.length<2/\∀l,H l=none->Q (.ref l) (upd H l (.lst vs)))
theorem aEO{rows:List (List PyData)}{vs:List V}{its:List Value}{Q:VK}(hu:A.in1.units+64<cLine)(I:Inv X pins σ H s)(rv:bC vs its)(hrep:aK X.K H (rows.map .tuple) vs)(h2:2<=rows.length)(h64:rows.length<64)
 (hsh:∀r∈rows,r.all SeqAt.shaped=true/\cJ r=true) (hknd:iO rows=true\/oF rows=true) (hlt:∀i j,i<rows.length->j<rows.length->(cQ (rows.getD i []) (rows.getD j [])).isSome=true)
 (q:∀l,H l=none->Q (.ref l) (upd H l (.lst ((dB (dX rows) rows.length).map fun i=>vs.getD i .non)))):
 wpAny (model X.prog X.w) A (pY its) (fun fin s'=>∃v,fin=.done (.ret v)/\∃x H',Inv X pins σ H' s'/\RelV x v/\Q x H') E s:=by
 obtain⟨as,hr⟩:=aK.reads I _ vs its hrep rv;have hlen:its.length=rows.length:=by rw[ReadsAll.len hr,A9]
 obtain⟨m,F⟩:=I.fr;have N:News X.base X.env.locals s.heap (lF X.base s.heap X.env.locals):=JY;unfold pY;refine PySem.W.l2_tail (Q:=fun v s'=>∃x H',Inv X pins σ H' s'/\RelV x v/\Q x H') F N (by omega) (by omega) fun D e1 h' F' N' hD=>?_
 have kp:∀(h1:Heap),Fr X.base X.env.locals h1 m->(∀q∈lF X.base s.heap X.env.locals,h1.get? q.1=some q.2)->∀b o,b≠X.env.locals->s.heap.get? b=some o->h1.get? b=some o:=fun h1 G1 M1 b o hb e=>by
  cases z:X.base.get? b with
  |some v=>
   have:=I.bk b v z;rw[e]at this;cases this;exact G1.keep b _ z
  |none=>exact M1 (b,o) (lC hb z e)
 have k':=kp h' F' (fun q hq=>(N' q (B4 _ hq)).1)
 have hsz:s.heap.get? D=none:=by
  have hN:=N' _ B5;cases e:s.heap.get? D with
  |none=>rfl
  |some o=>exact absurd (hD (D,o) (lC hN.2.1 hN.2.2 e)) (F8 _)
 have seqL:∀b o vs n,s.heap.get? b=some o->o.data=.seq vs n->b≠X.env.locals:=fun b o vs n e d z=>by
  obtain⟨o',es,ep,x1,x2,_⟩:=F.ns;subst z;rw[e]at x1;cases x1;rw[d]at x2;cases x2
 have onl:cJ (rows.map .tuple)=true:=by
  clear hrep hr hlen q hknd hlt h2 h64
  induction rows with
  |nil=>rfl
  |cons x r ih=>
   show(cJ x&&cJ (r.map .tuple))=true;rw[(hsh x B5).2,ih fun y hy=>hsh y (B4 _ hy)];rfl
 have hr':ReadsAll h' its (rows.map .tuple) as:=QF (fun b o vs n e d=>k' b o (seqL b o vs n e d) e) _ _ _ onl hr;refine DN (s:={ s with heap:=h' }) hr' (by omega) hknd ?_;rw[hlen];refine KS.wp (lt:=dX rows) (n:=rows.length) (fun i j C hi hj c=>?_) (fun p hp'=>?_) ((FE (by omega)).ks (lt:=dX rows))
 .have at_:∀i,i<rows.length->∃bs,Reads h' (its.getD i .none) (.tuple (rows.getD i [])) bs:=fun i hi=>by
   obtain⟨bs,x⟩:=ReadsAll.at i hr' (by simpa using hi)
   have:(rows.map PyData.tuple).getD i .none=.tuple (rows.getD i []):=by
    rw[C0,D6,C0,B1 hi];rfl
   rw[this]at x;exact⟨bs,x⟩
  obtain⟨b1,r1⟩:=at_ i hi;obtain⟨b2,r2⟩:=at_ j hj
  have mem:∀i,i<rows.length->rows.getD i []∈rows:=fun i hi=>by
   rw[C0,B1 hi];exact J8 hi
  have hd:iO rows=true->∀r∈rows,r.head?.all isI=true:=fun z r hr=>by
   unfold iO at z;have:=List.all_eq_true.mp z r hr;cases r with
   |nil=>rfl
   |cons d ds=>cases d<;>first|rfl|exact absurd this (by intro z;cases z)
  obtain⟨c0,hc0⟩:=Option.isSome_iff_exists.mp (hlt i j hi hj);have hc:dX rows i j=c0:=by unfold dX;rw[hc0];rfl
  rw[hc]at c;exact YO (s:={ s with heap:=h' }) hu r1 r2 (hsh _ (mem i hi)).1 (hsh _ (mem j hj)).1 hc0 (fun z=>⟨hd z _ (mem i hi),hd z _ (mem j hj)⟩) c
 .obtain⟨e,_⟩:=hp';subst e;refine PySem.W.KasFin.intro F' N' (.head fun q hq=>B6 (hD q hq)) fun h'' c F'' N''=>?_;have k'':=kp h'' F'' (fun q hq=>(N'' q (B4 _ hq)).1);refine⟨.ref D,upd H D (.lst ((dB (dX rows) rows.length).map fun i=>vs.getD i .non)),?_,rfl,q D (I.hok.none hsz)⟩;refine I.laidL k'' (fun m' hm'=>?_) hsz ⟨?_,_,c,vM rv _,(N'' _ B5).1⟩
  .rw[<- OU F.ns hm'];exact F''.ns
  .rw[A9,(lO (dX rows) (by omega)).length_eq,List.length_range];have:64<=sizeLine:=by decide
   omega
theorem aGD{A:Around}{vs:List V}{its:List Value}{Q:VK}(I:Inv X pins σ H s)(rv:bC vs its)(h2:vs.length<2)(q:∀l,H l=none->Q (.ref l) (upd H l (.lst vs))):
 wpAny (model X.prog X.w) A (pY its) (fun fin s'=>∃v,fin=.done (.ret v)/\∃x H',Inv X pins σ H' s'/\RelV x v/\Q x H') E s:=by
 have hl:=rv.length;have hz:its.length<=sizeLine:=by rw[D5];omega
 unfold pY;refine A0 (wpAny_newList ?_ hz);refine A0 (D4 ?_);have gD:(s.heap.push { cls:=.type "list",data:=.seq its.toArray }).get? s.heap.objs.size=some (seqObj "list" its.toArray 0):=B0 _ rfl;refine F7 slot_list_sort ⟨_,gD,rfl⟩ entry_list_sort (oK gD (by omega) ⟨_,rfl,?_⟩) (args_list_sort _)
 obtain⟨c,gg⟩:∃c,(sortedHeap (s.heap.push { cls:=.type "list",data:=.seq its.toArray }) s.heap.objs.size its its.toArray).get? s.heap.objs.size=some (seqObj "list" its.toArray c):=by
  unfold sortedHeap;have g1:=Y7 gD (fun _=>#[]);have g2:=A2 (seqObj "tuple" its.toArray 0) g1;have g3:=A2 (seqObj "list" #[] 0) g2;exact⟨_,Y7 g3 (fun _=>its.toArray)⟩
 refine A3 ⟨_,rfl,.ref s.heap.objs.size,upd H s.heap.objs.size (.lst vs),I.laid (t':=s.toks) (fun b o e=>?_) (A7 _) ⟨by omega,its,c,rv,gg⟩,rfl,q _ (I.hok.fresh (A7 _))⟩
 .have hb:b≠s.heap.objs.size:=B6 (A8 e);unfold sortedHeap;rw[U4 _ _ _ _ hb];refine A2 _ (A2 _ ?_);rw[U4 _ _ _ _ hb];exact A2 _ e
theorem aGs{vs:List V}{its:List Value}{Q:VK}(hu:A.in1.units+64<cLine)(I:Inv X pins σ H s)(rv:bC vs its)(h:WD X.K vs H Q):
 wpAny (model X.prog X.w) A (pY its) (fun fin s'=>∃v,fin=.done (.ret v)/\∃x H',Inv X pins σ H' s'/\RelV x v/\Q x H') E s:=by
 rcases h with⟨rows,a,b,c,d,e,f,g⟩|⟨a,b⟩
 .exact aEO hu I rv a b c d e f g
 .exact aGD I rv a b
noncomputable def tX:List (V×V)->Hp->(List V->Hp->Prop)->Prop
 |[],H,k=>k [] H
 |(x,y)::r,H,k=>∀p,H p=none->tX r (upd H p (.tup [x,y])) fun vs H2=>k (.ref p::vs) H2
theorem Inv.trackT{e:Addr}{vs:List V}{its:List Value}{n:Nat}(I:Inv X pins σ H s)(he:s.heap.get? e=some { cls:=.type "tuple",data:=.seq its.toArray n })(rv:bC vs its)(hz:vs.length<=sizeLine)(hn:H e=none)(h0:X.s₀.heap.get? e=none)(hp:∀p∈X.pn++pins,p.1≠e):
 Inv X pins σ (upd H e (.tup vs)) s:=by
 have ne:∀b u,H b=some u->b≠e:=fun b u z=>aO z hn
 have nd:∀b (o:Obj),s.heap.get? b=some o->(∀vs n,o.data≠.seq vs n)->b≠e:=fun b o q z w=>by
  subst w;rw[he]at q;cases q;exact z _ _ rfl
 refine⟨I.ok,I.os,I.bare,⟨I.base.keep,I.base.slot,fun b o q n hx=>?_,I.base.there,fun b xs q=>?_,fun b o u q=>?_,fun b ps q=>?_⟩,I.loc,I.cell,?_,fun x c q=>?_,fun p h=>?_,fun b u q=>?_,I.len⟩
 .rw[aJ (fun z=>by rw[z,h0]at q;cases q)];exact I.base.free b o q n hx
 .have:=I.base.tups b xs q;rw[aJ (ne _ _ this)];exact this
 .have:=I.base.frzs b o u q;rw[aJ (ne _ _ this)];exact this
 .obtain⟨more,this⟩:=I.base.tbls b ps q;exact⟨more,by rw[aJ (ne _ _ this)];exact this⟩
 .obtain⟨m,⟨o,es,ep,ho,hd,_⟩,_⟩:=I.loc;rw[aJ (nd _ o ho fun vs n z=>by rw[hd]at z;cases z)];exact I.free
 .obtain⟨v,o,ho,hd⟩:=I.cell x c q;rw[aJ (nd _ o ho fun vs n z=>by rw[hd]at z;cases z)];exact I.freeC x c q
 .obtain⟨q1,q2,q3⟩:=I.pin p h;exact⟨q1,by rw[aJ (hp p h)];exact q2,q3⟩
 .by_cases hb:b=e
  .subst hb;rw[aP]at q;cases q;exact⟨hz,its,rv,⟨_,he,rfl,n,rfl⟩⟩
  .rw[aJ hb]at q;exact(I.hok b u q).stay (fun _ _ _ z=>z) (fun c z=>by rw[aJ (ne _ _ z)];exact z) fun c xs z=>by rw[aJ (ne _ _ z)];exact z
theorem QP:∀{ps:List (V×V)}{us:List (Value×Value)}{as:List Addr}{H:Hp}{k:List V->Hp->Prop},Inv X pins σ H s->Paired (fun p q=>RelV p.1 q.1/\RelV p.2 q.2) ps us->as.length=us.length->as.Pairwise (·<·)->(∀a∈as,H a=none)->
 (∀(j:Nat)(a:Addr),as[j]?=some a->∃p,us[j]?=some p/\s.heap.get? a=some { cls:=.type "tuple",data:=.seq #[p.1,p.2] })->(∀a∈as,X.s₀.heap.get? a=none/\∀p∈X.pn++pins,p.1≠a)->tX ps H k->∃H2,Inv X pins σ H2 s/\k (as.map .ref) H2
 |[],us,as,H,k=>fun I r hl _ _ _ _ h=>by
  cases r;have:as=[]:=List.eq_nil_of_length_eq_zero hl;subst this;exact⟨H,I,h⟩
 |(x,y)::ps,us,as,H,k=>fun I r hl hp hn hg h0 h=>by
  cases r with
  |@cons _ q _ us' r1 r2=>
   match as,hl,hp,hn,hg,h0 with
   |a::as',hl,hp,hn,hg,h0=>
    obtain⟨p,e1,e2⟩:=hg 0 a rfl;have e1:some q=some p:=e1;cases e1;obtain⟨p1,p2⟩:=List.pairwise_cons.mp hp;have I1:=I.trackT (e:=a) (vs:=[x,y]) (its:=[q.1,q.2]) e2 (.cons r1.1 (.cons r1.2 .nil)) (by show 2<=sizeLine;rw[D5];decide) (hn a B5) (h0 a B5).1 (h0 a B5).2;have hl':as'.length=us'.length:=Nat.succ.inj hl;obtain⟨H2,I2,hk⟩:=QP (as:=as') (k:=fun vs H2=>k (.ref a::vs) H2) I1 r2 hl' p2 (fun b hb=>by rw[aJ (F9 (p1 b hb))];exact hn b (B4 _ hb)) (fun j b hb=>hg (j+1) b hb) (fun b hb=>h0 b (B4 _ hb)) (h a (hn a B5));exact⟨H2,I2,hk⟩
noncomputable def WL(K:Fg)(td:TE):TE:=fun σ H Q=>td σ H fun x H1=>∃a kvs,x=.ref a/\H1 a=some (.dT kvs) /\
 ∀bs:List Addr,Paired (fun(b:Addr)(kv:List Key×V)=>H1 b=some (.tup (kv.1.map kV))) bs kvs->tX ((bs.zip kvs).map fun p=>(.ref p.1,p.2.2)) H1 fun vs H2=>WD K vs H2 Q
end
section
variable{X:Cx}{o:Expr}{td:TE}{pos apos cpos p:Pos}
theorem KT.addrs{H:Hp}:∀{kvs:List (List Key×V)}{xs:List (List Key×Addr×Value)},KT H kvs xs->Paired (fun(b:Addr)(kv:List Key×V)=>H b=some (.tup (kv.1.map kV))) (xs.map fun x=>x.2.1) kvs /\
 Paired (fun(p:V×V)(q:Value×Value)=>RelV p.1 q.1/\RelV p.2 q.2) (((xs.map fun x=>x.2.1).zip kvs).map fun p=>(V.ref p.1,p.2.2)) (xs.map fun x=>(Value.ref x.2.1,x.2.2))
 |_,_,.nil=>⟨.nil,.nil⟩
 |_,_,.cons r1 r2=>⟨.cons r1.2.1 (KT.addrs r2).1,.cons ⟨rfl,r1.2.2⟩ (KT.addrs r2).2⟩
theorem UM(hu:X.A.in1.in1.units+64<cLine)(hc:X.calm=true)(hg:Gl X "sorted")(hm:X.mg "sorted"=none)(ho:PE X o td)(hb:attributeBase o "items" X.env (eval o X.env)=eval o X.env)(hline:(apos.endLine==cpos.line)=true):
 PE X (.Call (.Name "sorted" p) [.Call (.Attribute o "items" apos) [] [] cpos] [] pos) (WL X.K td):=by
 intro pins s σ H Q I h;refine J4 (tK I hg hm boot_sorted ?_ (by decide) (by decide));refine PyProof.Rows.callWith_builtin1 ?_ rfl rfl;show wpAny _ _ (spliced ((false,eval (.Call (.Attribute o "items" apos) [] [] cpos) X.env)::[])) _ _ s;refine A0a ?_;refine wpAny_Call_method (T:="dict") (id:="dict.items") hb rfl hline PySem.F.plainAttrs_dict PySem.F.slot_dict_items PySem.F.type_dict_items (thn (ho pins s σ H _ I h) fun u s1 ⟨x,H1,I1,rx,a,kvs,ex,ea,q⟩=>?_);subst ex;obtain rfl:u=Value.ref a:=rx;obtain⟨z,hs,xs,r,od,es,ep,h1,h2,h3,h4,h5⟩:=(show cK X.prog X.w H1 s1.heap a (.dT kvs)from I1.hok a _ ea);have hT:s1.TypeIs (.ref a) "dict":=⟨od,h1,h2.1⟩;refine⟨hT,fun b e=>by cases e;exact⟨od,h1,h2.2.1⟩,?_⟩;show wpAny _ _ (callWith cpos (.builtin "dict.items") [.ref a] [] []) _ _ s1;refine method_meetsIn PySem.F.slot_dict_items PySem.F.entry_dict_items rfl (PySem.evalArgs_none ⟨rfl,hT,PySem.F.args_dict_items_1 _,_,MN a hs,hT,?_⟩);refine Calls.spliced_nil ?_;have I2:Inv X pins σ H1 { s1 with heap:=s1.heap.push { cls:=.type "dict_items",data:=.fields #[.ref a] } }:=I1.kept (t':=s1.toks) fun b o e=>A2 _ e;have hv:(s1.heap.push { cls:=.type "dict_items",data:=.fields #[.ref a] }).IsItemsView s1.heap.objs.size a:=⟨_,B0 _ rfl,rfl,rfl⟩;have hat:Raw (s1.heap.push { cls:=.type "dict_items",data:=.fields #[.ref a] }) a es ep:=⟨od,A2 _ h1,h3⟩;have hzs:es.size=xs.length:=by rw[<- S5,h4,A9]
 have hl:kvs.length=xs.length:=Paired.len r;refine Calls.call_function_entry kind_sorted plain_sorted entry_sorted (args_sorted1 _) ?_;unfold Builtin.«sorted»;refine A0 (m:=checkCount "sorted" 1 1 _) (A3 ?_);refine A0 (TQ (A:=X.A.in1) (I.ok.hd hc) hv hat (by rw[hzs,<- hl];exact z) fun h' tk as hk hal hG=>?_);have I3:Inv X pins σ H1 { s1 with heap:=h',toks:=tk }:=I2.kept hk;obtain⟨pk1,pk2⟩:=KT.addrs r;have hge:∀b∈as,s1.heap.objs.size<b:=fun b hb=>O1 (show s1.heap.objs.size<(s1.heap.push { cls:=.type "dict_items",data:=.fields #[.ref a] }).objs.size by rw[O2];exact F5 _) (hG.above b hb)
 obtain⟨H2,I4,hk2⟩:=QP (as:=as) (s:={ s1 with heap:=h',toks:=tk }) I3 pk2 (by rw[hal,hzs,A9]) hG.rise (fun b hb=>I1.hok.fresh (S1 (hge b hb))) (fun j b hj=>by
  obtain⟨e,e1,e2⟩:=hG.duos j b hj;refine⟨(e.key,e.val),?_,e2⟩;rw[<- U9,h4,D6]at e1;rw[D6];cases c:xs[j]?<;>rw[c]at e1<;>cases e1;rfl) (fun b hb=>⟨S6 (D3 I1.sz (S1 (hge b hb))),fun p hp=>B6 (O1 (A8 (I1.pin p hp).1) (hge b hb))⟩) (q _ pk1)
 exact aGs (A:=X.A.in1) hu I4 (its:=as.map Value.ref) (by
  clear hk2 hG hal hge
  induction as with
  |nil=>exact .nil
  |cons b as ih=>exact .cons rfl ih) hk2
end
section
variable{K:Fg}{td:TE}{fo:EF}
theorem Good.adopt{b:Addr}{us:List V}(G:Good K W M H)(hb:H b=some (.tup us)):W.Ext { W with F:=upd W.F b (.tup us) }/\Good K { W with F:=upd W.F b (.tup us) } M H:=by
 have ff:iD W.F (upd W.F b (.tup us)):=fun c o hc=>by
  by_cases q:c=b
  .subst q;have:=G.fh _ _ hc;rw[hb]at this;cases this;exact aP
  .rw[aJ q];exact hc
 have e:W.Ext { W with F:=upd W.F b (.tup us) }:=⟨ff,A7 _,fun _ _=>rfl⟩;refine⟨e,fun c o hc=>?_,G.n,fun i c hi hc=>?_,G.inj⟩
 .have hc:upd W.F b (.tup us) c=some o:=hc;by_cases q:c=b
  .subst q;rw[aP]at hc;cases hc;exact hb
  .rw[aJ q]at hc;exact G.fh c o hc
 .obtain⟨h1,o,h2,h3⟩:=G.cs i c hi hc
  have ne:W.α i≠b:=fun q=>by
   rw[q,hb]at h2;cases h2;cases c<;>exact False.elim h3
  exact⟨by show upd W.F b (.tup us) (W.α i)=none;rw[aJ ne];exact h1,o,h2,h3.up e⟩
noncomputable def IQ(kv:List Key×PyData):List PyData:=[.tuple (kv.1.map LQ),kv.2]
noncomputable def yC:List (List Key×CD)->Option (List (List Key×PyData))
 |[]=>some []
 |(k,.d x)::r=>(yC r).bind fun q=>some ((k,x)::q)
 |_=>none
noncomputable def pP(rows:List (List PyData)):Option (List PyData):=if sortable rows=true then some (DC rows)else if rows.length<2 then some (rows.map .tuple)else none
noncomputable def vR(fo:EF):EF:=fun γ M=>(fo γ M).bind fun o=>match o.1 with
 |.c i=>match o.2[i]? with
  |some (.dt kvs)=>(yC kvs).bind fun ds=>(pP (ds.map IQ)).bind fun r=>some (.d (.list r),o.2)
  |_=>none
 |_=>none
theorem OW{H:Hp}:∀ks:List Key,aK K H (ks.map LQ) (ks.map kV)
 |[]=>rfl
 |k::ks=>⟨_,_,rfl,by cases k<;>rfl,OW ks⟩
theorem DL{M:Sto}{H:Hp}:∀{bs:List Addr}{kvs:List (List Key×V)}{W:Wd},Good K W M H->Paired (fun(b:Addr)(kv:List Key×V)=>H b=some (.tup (kv.1.map kV))) bs kvs->∃W',W.Ext W'/\Good K W' M H/\Paired (fun(b:Addr)(kv:List Key×V)=>W'.F b=some (.tup (kv.1.map kV))) bs kvs
 |_,_,W,G,.nil=>⟨W,.refl _,G,.nil⟩
 |_,_,W,G,.cons h1 h2=>by
  obtain⟨e1,G1⟩:=G.adopt h1;obtain⟨W2,e2,G2,p2⟩:=DL G1 h2;exact⟨W2,e1.trans e2,G2,.cons (e2.ff _ _ aP) p2⟩
theorem KP{M:Sto}:∀{bs:List Addr}{ds:List (List Key×PyData)}{kvs:List (List Key×V)}{W:Wd}{H:Hp}{k:List V->Hp->Prop},Good K W M H->Paired (fun(b:Addr)(kv:List Key×V)=>W.F b=some (.tup (kv.1.map kV))) bs kvs->Paired (fun(p:List Key×PyData)(q:List Key×V)=>p.1=q.1/\Rep K W.F p.2 q.2) ds kvs->
 (∀vs W' H',W.Ext W'->Good K W' M H'->aK K W'.F ((ds.map IQ).map .tuple) vs->k vs H')->tX ((bs.zip kvs).map fun p=>(.ref p.1,p.2.2)) H k
 |_,_,_,W,H,k,G,.nil,.nil=>fun c=>c [] W H (.refl _) G rfl
 |b::bs,(ks,d)::ds,(ks',v)::kvs,W,H,k,G,.cons h1 h2,.cons q1 q2=>fun c=>by
  obtain⟨rfl,rd⟩:=(show ks=ks'/\Rep K W.F d v from q1);intro p hp;obtain⟨e1,G1⟩:=G.lay (o:=.tup [.ref b,v]) hp;refine KP G1 (Paired.mapP h2 fun _ _ r=>e1.ff _ _ r) (Paired.mapP q2 fun _ _ r=>⟨r.1,Rep.same e1.ff _ _ r.2⟩) fun vs W2 H2 e2 G2 r2=>?_;refine c _ W2 H2 (e1.trans e2) G2 ⟨_,_,rfl,⟨p,_,rfl,SqT.of (e2.ff _ _ aP),?_⟩,r2⟩;exact⟨_,_,rfl,⟨b,_,rfl,SqT.of ((e1.trans e2).ff _ _ h1),OW ks⟩,_,_,rfl,Rep.same (e1.trans e2).ff _ _ rd,rfl⟩
theorem vB{W:Wd}:∀{kvs:List (List Key×CD)}{ds:List (List Key×PyData)}{us:List (List Key×V)},yC kvs=some ds->PKV K W kvs us->Paired (fun(p:List Key×PyData)(q:List Key×V)=>p.1=q.1/\Rep K W.F p.2 q.2) ds us
 |[],_,_,h,.nil=>by cases h;exact .nil
 |(k,.d x)::r,_,_,h,.cons r1 r2=>by
  obtain⟨q,h1,h⟩:=aG (show(yC r).bind _=_ from h);cases h;exact .cons r1 (vB h1 r2)
 |(k,.c _)::r,_,_,h,_=>by cases h
theorem aAl(a:SE K td fo):SE K (WL K td) (vR fo):=by
 intro γ M x M' hh W H σ Q G R k;obtain⟨⟨o,M1⟩,h1,hh⟩:=aG hh;revert hh;dsimp only;split
 .rename_i i;split
  .rename_i kvs hk;intro hh;obtain⟨ds,h2,hh⟩:=aG hh;obtain⟨r,h3,hh⟩:=aG hh;cases hh;refine a _ _ _ _ h1 W H σ _ G R fun v W1 H1 e1 G1 r1=>?_;obtain⟨us,hu,pu⟩:=G1.dtAt hk;refine⟨_,us,r1.2,hu,fun bs pb=>?_⟩;obtain⟨W2,e2,G2,p2⟩:=DL G1 pb;refine KP G2 p2 (Paired.mapP (vB h2 pu) fun _ _ r=>⟨r.1,Rep.same e2.ff _ _ r.2⟩) fun vs W3 H3 e3 G3 r3=>?_;have e13:=(e1.trans e2).trans e3;unfold pP at h3;by_cases hs:sortable (ds.map IQ)=true
   .rw[A4 hs]at h3;cases h3;obtain⟨s1,s2,s3,s4,s5⟩:=iM hs;refine .inl ⟨ds.map IQ,aK.same G3.fh _ _ r3,s1,s2,s3,s4,s5,fun l hl=>?_⟩;obtain⟨e4,G4⟩:=G3.lay (o:=.lst ((dB (dX (ds.map IQ)) (ds.map IQ).length).map fun i=>vs.getD i .non)) hl;exact k _ _ _ (e13.trans e4) G4 ⟨l,_,rfl,SqL.of aP,aK.same e4.ff _ _ (tW r3 _ (ZH (by omega)))⟩
   .rw[A5 hs]at h3;by_cases hl2:(ds.map IQ).length<2
    .rw[A4 hl2]at h3;cases h3;refine .inr ⟨by rw[<- r3.length,A9];exact hl2,fun l hl=>?_⟩;obtain⟨e4,G4⟩:=G3.lay (o:=.lst vs) hl;exact k _ _ _ (e13.trans e4) G4 ⟨l,_,rfl,SqL.of aP,aK.same e4.ff _ _ r3⟩
    .rw[A5 hl2]at h3;cases h3
  .intro hh;cases hh
 .intro hh;cases hh
theorem ZX{ι:Type}{X:ι->Cx}{o:Expr}{f:EF}{pos apos cpos p:Pos}(hK:∀i,(X i).K=K)(hu:∀i,(X i).A.in1.in1.units+64<cLine)(hc:∀i,(X i).calm=true)(hm:∀i,(X i).mg "sorted"=none)(x:ME K X o f)(hg:∀i,Gl (X i) "sorted":=by intro _;rfl)
 (hb:∀env:Env,attributeBase o "items" env (eval o env)=eval o env:=by intro _;rfl) (hline:(apos.endLine==cpos.line)=true:=by rfl):ME K X (.Call (.Name "sorted" p) [.Call (.Attribute o "items" apos) [] [] cpos] [] pos) (vR f):=by
 obtain⟨t,x1,x2⟩:=x.ex;exact⟨_,fun i=>by have:=UM (p:=p) (pos:=pos) (apos:=apos) (cpos:=cpos) (hu i) (hc i) (hg i) (hm i) (x1 i) (hb _) hline;rw[hK i]at this;exact this,aAl x2⟩
end
section
variable{K:Fg}
theorem Good.freezeL{i:Nat}{xs:List CD}{ds:List PyData}(G:Good K W M H)(hi:M[i]?=some (.lst xs))(hd:hV xs=some ds):
 ∃W',W.Ext W'/\Good K W' (M.set i .dead) H/\W'.α i=W.α i/\bP K W' (.d (.list ds)) (.ref (W.α i)):=by
 obtain⟨vs,hv,rv⟩:=G.lstAt hi;obtain⟨hn,_⟩:=G.cs i _ hi (by intro q;cases q);have lt:i<M.length:=(List.getElem?_eq_some_iff.mp hi).1;have e:W.Ext { W with F:=upd W.F (W.α i) (.lst vs) }:=⟨iD.upd hn,A7 _,fun _ _=>rfl⟩
 have at_:∀j d,(M.set i .dead)[j]?=some d->d≠.dead->j≠i/\M[j]?=some d:=fun j d h hd=>by
  by_cases q:i=j
  .subst q;rw[E1 lt]at h;exact absurd (D2 h).symm hd
  .rw[D7 q]at h;exact⟨fun z=>q z.symm,h⟩
 refine⟨_,e,⟨fun c o hc=>?_,by show W.n=_;rw[G.n,Y6],fun j d hj hd=>?_,fun j k d1 d2 hj hk e1 e2 he=>?_⟩,rfl,⟨_,vs,rfl,SqL.of aP,aK.same e.ff _ _ (cX hd rv)⟩⟩
 .have hc:upd W.F (W.α i) (.lst vs) c=some o:=hc;by_cases q:c=W.α i
  .subst q;rw[aP]at hc;cases hc;exact hv
  .rw[aJ q]at hc;exact G.fh c o hc
 .obtain⟨q,h⟩:=at_ j d hj hd;obtain⟨k1,u,k2,k3⟩:=G.cs j d h hd;have ne:W.α j≠W.α i:=fun z=>q (G.inj j i d _ h hi hd (by intro z;cases z) z);exact⟨by show upd W.F (W.α i) (.lst vs) (W.α j)=none;rw[aJ ne];exact k1,u,k2,k3.up e⟩
 .exact G.inj j k d1 d2 (at_ j d1 hj e1).2 (at_ k d2 hk e2).2 e1 e2 he
noncomputable def fFreeze(f:EF):EF:=fun γ M=>(f γ M).bind fun r=>match r.1 with
 |.c i=>match r.2[i]? with
  |some (.lst xs)=>(hV xs).bind fun ds=>some (.d (.list ds),r.2.set i .dead)
  |_=>none
 |.d x=>some (.d x,r.2)
 |_=>none
noncomputable def JI:FN:=fun xs M=>match xs with
 |[.d a]=>(bJ a).bind fun ds=>some (.c M.length,M++[.lst (ds.map .d)])
 |[.c i]=>match M[i]? with
  |some (.lst ys)=>some (.c M.length,M++[.lst ys])
  |_=>none
 |_=>none
theorem YH:PN K (NL K) JI:=by
 intro xs M z M' h W H vs Q G r k;unfold JI at h;split at h
 .rename_i a;obtain⟨ds,h1,h⟩:=aG h;cases h;rcases r with _|⟨r1,_|_⟩;obtain⟨p,us,rfl,hs,hr⟩:=mU (show Rep K W.F a _ from r1) h1;refine⟨p,us,rfl,hs.elim (fun q=>.inl (G.fh.seq q)) (fun q=>.inr (G.fh.seqT q)),fun l hl=>?_⟩;exact k _ (W.more l) _ (W.ext_more l) (G.new hl (c:=.lst (ds.map .d)) (o:=.lst us) (jQ hr)) G.newV
 .rename_i i;split at h
  .rename_i ys hy;cases h;rcases r with _|⟨r1,_|_⟩;obtain⟨us,hv,hr⟩:=G.lstAt hy;refine⟨_,us,by rw[r1.2],.inl (SqL.of hv),fun l hl=>?_⟩;exact k _ (W.more l) _ (W.ext_more l) (G.new hl (c:=.lst ys) (o:=.lst us) hr) G.newV
  .cases h
 .cases h
theorem aBE{ι:Type}{X:ι->Cx}(hK:∀i,(X i).K=K):QN K X (.type "list") JI:=⟨_,fun i=>aDE (hK i),YH⟩
noncomputable def eqC(neg:Bool):F2:=fun x y M=>(snap 5 M x).bind fun a=>(snap 5 M y).bind fun b=>if (SeqAt.shaped a&&SeqAt.shaped b)=true then some (.d (.bool (if neg then !PyData.eqv a b else PyData.eqv a b)),M)else none
theorem aEQ{neg:Bool}:P2 K (NQ K neg) (eqC neg):=by
 intro x y M z M' h W H v u Q G rx ry k;obtain⟨a,h1,h⟩:=aG h;obtain⟨b,h2,h⟩:=aG h;by_cases hs:(SeqAt.shaped a&&SeqAt.shaped b)=true
 .rw[A4 hs]at h;cases h;rw[B3]at hs;exact⟨a,b,mL G 5 x a v h1 rx,mL G 5 y b u h2 ry,hs.1,hs.2,k _ W H (.refl _) G rfl⟩
 .rw[A5 hs]at h;cases h
noncomputable def eqY(neg:Bool):F2:=xG (eqX neg) (eqC neg)
theorem aHS{ι:Type}{X:ι->Cx}(hK:∀i,(X i).K=K)(hu:∀i,(X i).A.units+64<cLine):Q2 K X (compareOp .NotEq) (eqY true):=⟨_,fun i=>(kNe (hK i) (hu i)).or (show OpR (X i) (compareOp .NotEq) (NQ K true)by have:=YR (X:=X i) (hu i);rw[hK i]at this;exact this),P2.or UE aEQ⟩
end
section
variable{X:Cx}{pins:List (Addr×Obj)}{σ:St}{H:Hp}{s:Shared}{a:Addr}{y v:V}{u r:Value}{A:Around}{E:Value->Shared->Prop}
theorem DA{H':Hp}{Q:Unit->Shared->Prop}(hu:A.units<cLine)(I:Inv X pins σ H s)(g:qK H a y v H')(ry:RelV y u)(rv:RelV v r)(h:∀s',Inv X pins σ H' s'->Q () s'):
 wpAny (model X.prog X.w) A (dictSet a u r) Q E s:=by
 rcases g with⟨kvs,k,e,ey,l,eH⟩|⟨kvs,k,b,e,ey,eb,l,eH⟩
 .subst ey eH;obtain⟨z,hd,vs,rel,dd⟩:=YU I.hok e;have hz:vs.length<=sizeLine:=by rw[<- rel.length];exact z
  have hl:(putK kvs k v).length<=sizeLine:=by have:=iK kvs k v;omega
  refine wpAny_dictSet_pairs (hsz:=hz) (yU ry) dd fun h' dd' hs=>h _ ?_;have he:∃q,h'.get? a=some q:=let⟨q,_,_,hq,_⟩:=dd';⟨q,hq⟩;exact rH I (by rw[e];exact True.intro) hs he (NJ hl hd (rel.put k rv) dd')
 .subst ey eH;cases (show u=Value.ref b from ry);obtain⟨z,hd,xs,rel,dd⟩:=aDg I.hok e;have hz:xs.length<=sizeLine:=by rw[<- Z4 rel];exact z
  have hl:(putK kvs k v).length<=sizeLine:=by have:=iK kvs k v;omega
  refine wpAny_dictSet_heap (hsz:=hz) hu (vS I.hok eb) dd fun h' dd' hs=>h _ ?_;obtain⟨q,es,ep,hq,h2,h3,h4,_,h5⟩:=dd';refine rH I (by rw[e];exact True.intro) hs ⟨q,hq⟩ ⟨hl,hd,_,(rel.put k eb rv).keeps fun c ys ec=>?_,q,es,ep,hq,h2,h3,h4,h5⟩;rw[aJ (wD ec e (fun z=>nomatch z))];exact ec
end
section
variable{prog:Program}{w:World}{A:Around}{R:Result->Shared->Prop}{s:Shared}
theorem aCG{kx vx target iter:Expr}{ifs:List Expr}{scope:Scope}{pos:Pos}{it:Value}{D:Addr}{env:Env}(I:Nat->Shared->Prop)
 (turn:∀n s,I n s->wpAny (model prog w) A (pyNext it) (fun r s1=>(r=none/\R (.ok .next) s1)\/∃v,r=some v /\
  wpAny (model prog w) A (letOwnedTupleGo target it v) (fun _ s2=>wpAny (model prog w) A (assign target env v) (fun _ s3=>
   wpAny (model prog w) A (forIn ifs true fun c r=>if r=true then(do
    let ok <- isTrue c env (eval c env)
    pure (ForInStep.yield ok))else pure (ForInStep.yield r)) (fun ok s4=>
     (ok=true/\wpAny (model prog w) A (eval kx env) (fun kv s5=>wpAny (model prog w) A (eval vx env) (fun vv s6=>wpAny (model prog w) A (dictSet D kv vv) (fun _ s7=>∃m,m<n/\I m s7) (fun _ _=>False) s6) (fun _ _=>False) s5) (fun _ _=>False) s4) \/
     (ok=false/\∃m,m<n/\I m s4)) (fun _ _=>False) s3) (fun _ _=>False) s2) (fun _ _=>False) s1) (fun _ _=>False) s)
 (n:Nat) (h:I n s):codeAny (model prog w) A (.compLoop (.DictComp kx vx [⟨target,iter,ifs,0⟩] scope pos) 0 it (.ref D) env) R s:=by
 refine codeAny_loop rfl I (fun n s hI=>?_) n h
 show wpAny _ A ((compTurn (.DictComp kx vx [⟨target,iter,ifs,0⟩] scope pos) 0 it (.ref D) env).onRaise fun x=>do
  noteFrame x env
  theTreesLotGoes x) _ _ s
 refine wpAny_noted ?_;rw[compTurn_dict];refine A0 (S0 (A0 (D0 (turn n s hI) (fun r s1 h1=>?_) fun _ _ f=>f.elim)));rcases h1 with⟨rfl,h1⟩|⟨v,rfl,h1⟩
 .exact A3 h1
 .refine A0 (D0 h1 (fun _ s2 h2=>?_) fun _ _ f=>f.elim);refine A0 (D0 h2 (fun _ s3 h3=>?_) fun _ _ f=>f.elim);refine A0 (D0 h3 (fun ok s4 h4=>?_) fun _ _ f=>f.elim);rcases h4 with⟨rfl,h4⟩|⟨rfl,h4⟩
  .refine A0 (A0 (D0 h4 (fun kv s5 h5=>?_) fun _ _ f=>f.elim));refine A0 (D4 (D0 h5 (fun vv s6 h6=>?_) fun _ _ f=>f.elim));refine A0 (S0 (D4 (D0 h6 (fun _ s7 h7=>A3 ⟨rfl,h7⟩) fun _ _ f=>f.elim)))
  .exact A3 ⟨rfl,h4⟩
end
noncomputable def tDc(o0:HO)(cap:List (Option Nat))(wi:TI)(g:TG)(tc:TT)(tk tv:TE):TE:=fun σ H Q=>wi σ H fun J H1=>∀D,H1 D=none->∃W:Nat->Nat->St->Hp->Prop,(∃m,W 0 m (xO cap σ) (upd H1 D o0))/\∀i m σ' H',W i m σ' H'->
 (J.stop i H'/\Q (.ref D) H') \/
 (J.go i H'/\∃N:St->Hp->Prop,(∀σ2 H2,N σ2 H2->∃m',m'<m/\W (i+1) m' σ2 H2)/\∀x H2,J.yld i H' x H2->g x σ' H2 fun σ2 H3=>tc σ2 H3 fun b H4=>(b=true/\tk σ2 H4 fun y H5=>tv σ2 H5 fun v H6=>∃H7,qK H6 D y v H7/\N σ2 H7)\/(b=false/\N σ2 H4))
section
variable{X:Cx}{N':List Str}{cap:List (Option Nat)}{scope:Scope}
theorem aFB{o0:HO}(ho:o0=.dT []\/o0=.dK []){kx vx tg iter:Expr}{ifs:List Expr}{pos:Pos}{wi:TI}{g:TG}{tc:TT}{tk tv:TE}(hu:X.A.units<cLine)(hc:X.calm=true)(S:oO X N' cap scope)(hi:PI X tg iter wi)
 (hg:∀C s H fp pn,PG (eQ X N' scope C s H fp pn) tg g) (hif:∀C s H fp pn,IZ (eQ X N' scope C s H fp pn) ifs tc) (hk:∀C s H fp pn,PE (eQ X N' scope C s H fp pn) kx tk) (hv:∀C s H fp pn,PE (eQ X N' scope C s H fp pn) vx tv)
 (hs:∀x,foldedSetIterable iter X.env x=pure x) {pins:List (Addr×Obj)} {s:Shared} {σ:St} {H:Hp} {Q:VK} (I:Inv X pins σ H s) (h:tDc o0 cap wi g tc tk tv σ H Q) {use:Option (Value->Sem Unit)} {QQ:Value->Shared->Prop}
 (post:∀(D C:Addr)(H':Hp)(s':Shared),(∃m,s'.heap.Ns C m)->(∀h',Heap.SameBut C s'.heap h'->Inv X pins σ H' { s' with heap:=h' })->mT X pins H' C->Q (.ref D) H'->compPost (model X.prog X.w) X.A X.xe use QQ (.ref D) C (.ok .next) s'):
 wpAny (model X.prog X.w) X.A (comprehension (.DictComp kx vx [⟨tg,iter,ifs,0⟩] scope pos) scope X.env (firstIterPos [⟨tg,iter,ifs,0⟩] pos) newDict false (firstIter [⟨tg,iter,ifs,0⟩] X.env) use) QQ X.xe s:=by
 refine wpAny_comprehension_free (e:=.DictComp kx vx [⟨tg,iter,ifs,0⟩] scope pos) (g:=⟨tg,iter,ifs,0⟩) (gs:=[]) rfl hs (AA (S.cells I.ok)) S.kind S.names ?_;refine thn (hi pins s σ H _ I h) fun v s1 h1=>thn h1 fun itv s2 h2=>?_;obtain⟨it,fp,tn,J,H2,e,I2,T,st2,f2,hD⟩:=h2;subst e
 have fplt2:∀b∈fp,b<s2.heap.objs.size:=fun b hb=>by
  obtain⟨o,e,_⟩:=T.obj _ _ st2 b hb;exact A8 e
 refine C9 ?_;obtain⟨W,⟨m0,w0⟩,turn⟩:=hD s2.heap.objs.size (I2.hok.fresh (A7 _));generalize hDn:s2.heap.objs.size=D at *
 have I3:Inv X pins σ (upd H2 D o0) { s2 with heap:=s2.heap.push { cls:=.type "dict",data:=.dict #[] } }:=by
  refine I2.laid (t':=s2.toks) (fun _ _ q=>A2 _ q) (Nat.le_of_eq hDn) ?_;rcases ho with rfl|rfl
  .rw[<- hDn];exact zL _ I2.big
  .rw[<- hDn];exact BH _ I2.big
 have st3:tn 0 (s2.heap.push { cls:=.type "dict",data:=.dict #[] }):=T.keep _ _ _ st2 fun b _ o e=>A2 _ e
 have f3:∀b∈fp,mT X pins (upd H2 D o0) b:=fun b hb=>by
  obtain⟨q0,q1⟩:=f2 b hb;exact⟨by rw[aJ (B6 (fplt2 b hb))];exact q0,q1⟩
 generalize hs3:({ s2 with heap:=s2.heap.push { cls:=.type "dict",data:=.dict #[] } }:Shared)=s3 at I3 ⊢;have st3:tn 0 s3.heap:=by rw[<- hs3];exact st3
 have fplt:∀b∈fp,b<s3.heap.objs.size:=fun b hb=>by
  obtain⟨o,e,_⟩:=T.obj _ _ st3 b hb;exact A8 e
 refine wpAny_newFunctionEnv S.nocell (fun y hy=>by simp at hy) (fun h1' hns hsb=>?_) S.kind;have old:∀b o,s3.heap.get? b=some o->h1'.get? b=some o:=fun b o e=>hsb.extBut b o (B6 (A8 e)) (A2 _ e)
 have I4:Inv (eQ X N' scope s3.heap.objs.size s3 (upd H2 D o0) fp pins) [] (xO cap σ) (upd H2 D o0) { s3 with heap:=h1',toks:=s3.toks+([]:List (Str×Value)).length }:=
  HL S I3 f3 fplt (A7 _) (by simpa using hns) old
 have loop:∀s4:Shared,s4={ s3 with heap:=h1',toks:=s3.toks+([]:List (Str×Value)).length }->
  codeAny (model X.prog X.w) X.A (.compLoop (.DictComp kx vx [⟨tg,iter,ifs,0⟩] scope pos) 0 (.ref it) (.ref D) (compEnvC scope (eM X.env scope.names []) s3.heap.objs.size X.env)) (compPost (model X.prog X.w) X.A X.xe use QQ (.ref D) s3.heap.objs.size) s4:=by
  rintro s4 rfl
  have stat:∀{Hx:Hp},(∀b∈fp,Hx b=none)->∀b∈fp,mT (eQ X N' scope s3.heap.objs.size s3 (upd H2 D o0) fp pins) [] Hx b:=fun{Hx} hn b hb=>by
   refine⟨hn b hb,B6 (fplt b hb),I3.stkAll (f3 b hb).2.1 (f3 b hb).2.2.1,.inl hb,fun x c e=>(f3 b hb).2.2.2.2.1 x c (S.sub I3.ok x c e),fun p hp=>?_⟩;rcases List.mem_append.mp hp with z|z
   .exact(f3 b hb).2.2.2.2.2 p z
   .exact absurd z (by simp)
  refine aCG (fun n s'=>∃(i:Nat)(σ':St)(H':Hp),Inv (eQ X N' scope s3.heap.objs.size s3 (upd H2 D o0) fp pins) [] σ' H' s'/\tn i s'.heap/\(∀b∈fp,H' b=none)/\W i n σ' H') ?_ m0
   ⟨0,xO cap σ,_,I4,T.keep _ _ _ st3 fun b _ o e=>old b o e,fun b hb=>(f3 b hb).1,w0⟩
  rintro n s5 ⟨i,σ',H',I5,t5,fr5,w5⟩;rcases turn i n σ' H' w5 with⟨stop,q⟩|⟨go,N,hN,step⟩
  .refine thn (T.done (eQ X N' scope s3.heap.objs.size s3 (upd H2 D o0) fp pins) rfl rfl rfl hc i _ s5 σ' H' _ I5 (stat fr5) t5 stop) fun r s6 ⟨hr,I6⟩=>.inl ⟨hr,?_⟩;have nC:H' s3.heap.objs.size=none:=I6.free;refine post D _ H' s6 (let⟨m,hn,_⟩:=I6.loc;⟨m,hn⟩) (fun h' hs'=>?_) (I3.fpOk (A7 _) nC) q;have up:∀b o,b≠s3.heap.objs.size->s6.heap.get? b=some o->h'.get? b=some o:=fun b o hb e=>hs'.extBut b o hb e;have ltC:∀b o,s3.heap.get? b=some o->b≠s3.heap.objs.size:=fun b o e=>B6 (A8 e);have u6:Un (frs X.stack) fp (upd H2 D o0) H' s3.heap s6.heap:=I6.base
   have u7:Un (frs X.stack) fp (upd H2 D o0) H' s3.heap h':=by
    refine⟨fun b o e n hb hx=>up b o (ltC b o e) (u6.keep b o e n hb hx),fun b o e n hb hx=>?_,u6.free,fun b o e hx=>?_,u6.tups,u6.frzs,u6.tbls⟩
    .obtain⟨sl,q⟩:=u6.slot b o e n hb hx;exact⟨sl,up b _ (ltC b o e) q⟩
    .obtain⟨o',q⟩:=u6.there b o e hx;exact⟨o',up b o' (ltC b o e) q⟩
   have ok7:HOk X.prog X.w H' h':=fun b u e=>by
    refine(I6.hok b u e).stay (fun c v hc' z=>up c v ?_ z) (fun c z=>z) fun c xs z=>z;rcases hc' with rfl|z
    .exact aO e nC
    .exact aO z nC
   have os6:s6.os=s3.os:=I6.os;have ba6:=I6.bare;obtain⟨hh,gg,dd,tt,oo⟩:=s6;subst os6;have z7:=I3.call (s:=s3) (h':=h') (g':=gg) (d':=dd) (t':=tt) (ch:=fp) u7 ok7 ba6 fun b hb=>⟨(f3 b hb).2.2.2.1,(f3 b hb).2.1,(f3 b hb).2.2.2.2.1,(f3 b hb).2.2.2.2.2⟩;exact z7
  .refine thn (T.item (eQ X N' scope s3.heap.objs.size s3 (upd H2 D o0) fp pins) rfl rfl rfl hc i _ s5 σ' H' _ I5 (stat fr5) t5 go) fun r s6 ⟨u,hr,h6⟩=>.inr ⟨u,hr,?_⟩;refine thn h6 fun _ s7 ⟨x,H7,I7,r7,y7,t7,fr7⟩=>?_;have I7':=I7.pinned (stat fr7) (T.obj _ _ t7)
   have back:∀{σx:St}{Hx:Hp}{sx:Shared},Inv (eQ X N' scope s3.heap.objs.size s3 (upd H2 D o0) fp pins) ([]++vL fp s7.heap) σx Hx sx->(∀b∈fp,∀o,s7.heap.get? b=some o->sx.heap.get? b=some o)/\(∀b∈fp,Hx b=none):=fun{σx Hx sx} Ix=>by
    refine⟨fun b hb o e=>(Ix.pin (b,o) (B9 _ (B9 _ (gI hb e)))).1,fun b hb=>?_⟩;obtain⟨o,e,_⟩:=T.obj _ _ t7 b hb;exact(Ix.pin (b,o) (B9 _ (B9 _ (gI hb e)))).2.1
   refine thn (hg _ _ _ _ _ _ s7 σ' H7 x u _ I7' r7 (step x H7 y7)) fun _ s8 ⟨σ8,H8,I8,q8⟩=>?_;refine thn (hif _ _ _ _ _ _ s8 σ8 H8 _ I8 q8) fun b s9 ⟨H9,I9,q9⟩=>?_;rcases q9 with⟨rfl,q9⟩|⟨rfl,n9⟩
   .refine .inl ⟨rfl,thn (hk _ _ _ _ _ _ s9 σ8 H9 _ I9 q9) fun uk s10 ⟨y,H10,I10,ry,q10⟩=>thn (hv _ _ _ _ _ _ s10 σ8 H10 _ I10 q10) fun uv s11 ⟨v,H11,I11,rv,H12,g12,n12⟩=>?_⟩;obtain⟨m',hm,w12⟩:=hN _ _ n12;refine DA (X:=eQ X N' scope s3.heap.objs.size s3 (upd H2 D o0) fp pins) hu I11 g12 ry rv fun s12 I12=>?_;obtain⟨b1,b2⟩:=back I12;exact⟨m',hm,i+1,σ8,H12,I12.pins_of fun p hp=>absurd hp (by simp),T.keep _ _ _ t7 b1,b2,w12⟩
   .obtain⟨m',hm,w9⟩:=hN _ _ n9;obtain⟨b1,b2⟩:=back I9;exact .inr ⟨rfl,m',hm,i+1,σ8,H9,I9.pins_of fun p hp=>absurd hp (by simp),T.keep _ _ _ t7 b1,b2,w9⟩
 exact codeAny_compStart_dict (loop _ rfl) (T.self _ 0 _ _ _ (T.keep _ _ _ st3 fun b _ o e=>old b o e) (loop _ rfl))
theorem aHO{o0:HO}(ho:o0=.dT []\/o0=.dK []){kx vx tg iter:Expr}{ifs:List Expr}{pos:Pos}{wi:TI}{g:TG}{tc:TT}{tk tv:TE}(hu:X.A.units<cLine)(hc:X.calm=true)(S:oO X N' cap scope)(hi:PI X tg iter wi)
 (hg:∀C s H fp pn,PG (eQ X N' scope C s H fp pn) tg g) (hif:∀C s H fp pn,IZ (eQ X N' scope C s H fp pn) ifs tc) (hk:∀C s H fp pn,PE (eQ X N' scope C s H fp pn) kx tk) (hv:∀C s H fp pn,PE (eQ X N' scope C s H fp pn) vx tv)
 (hs:∀x,foldedSetIterable iter X.env x=pure x:=by intro _;rfl):PE X (.DictComp kx vx [⟨tg,iter,ifs,0⟩] scope pos) (tDc o0 cap wi g tc tk tv):=fun pins s σ H Q I h=>
 aFB (use:=none) ho hu hc S hi hg hif hk hv hs I h fun D _ H' _ ⟨m,hn⟩ hI _ q=>⟨m,hn,fun h' hs'=>⟨.ref D,H',hI h' hs',rfl,q⟩⟩
end
noncomputable def dcF(d:Nat)(g:GF)(c:TF)(fk:KF)(e:EF):List CD->Ga->Sto->Option Sto
 |[],_,M=>some M
 |x::xs,γ,M=>(g x γ M).bind fun a=>(c a.1 a.2).bind fun b=>if b.1=true then(fk a.1 b.2).bind fun k=>(e a.1 k.2).bind fun v=>(uK v.2 (.c d) k.1 v.1).bind fun M'=>dcF d g c fk e xs a.1 M' else dcF d g c fk e xs a.1 b.2
noncomputable def fDc(c0:Cell)(cap:List (Option Nat))(f:AF)(g:GF)(c:TF)(fk:KF)(e:EF):EF:=fun γ M=>(f γ M).bind fun r=>(dcF r.2.length g c fk e r.1 (qN cap γ) (r.2++[c0])).bind fun M'=>some (.c r.2.length,M')
section
variable{K:Fg}{tg:TG}{tt:TT}{hg:GF}{ft:TF}{fa:AF}
theorem aHZ{o0:HO}{c0:Cell}(h0:(o0=.dT []/\c0=.dt [])\/(o0=.dK []/\c0=.dk [])){wi:TI}{cap:List (Option Nat)}{tk tv:TE}{fk:KF}{fe:EF}(i:SI K wi fa)(a:SG K tg hg)(c:STt K tt ft)(b:SK K tk fk)(e:SE K tv fe):
 SE K (tDc o0 cap wi tg tt tk tv) (fDc c0 cap fa hg ft fk fe):=by
 intro γ M x M' hh W H σ Q G R k;obtain⟨⟨ys,M1⟩,h1,hh⟩:=aG hh;obtain⟨M9,h9,hh⟩:=aG hh;cases hh;refine i _ _ _ _ h1 W H σ _ G R fun J W1 H1 e1 G1 gv=>fun D hD=>?_;have G2:Good K (W1.more D) (M1++[c0]) (upd H1 D o0):=G1.new hD (by rcases h0 with⟨rfl,rfl⟩|⟨rfl,rfl⟩<;>exact .nil);have e2:=W1.ext_more D;have rD:bP K (W1.more D) (.c M1.length) (.ref D):=G1.newV;refine⟨fun j m σ' H'=>∃γ' M3 W3,j<=ys.length/\m=ys.length-j/\(W1.more D).Ext W3/\Good K W3 M3 H'/\cF K W3 γ' σ'/\dcF M1.length hg ft fk fe (ys.drop j) γ' M3=some M',⟨_,qN cap γ,_,_,E3 _,rfl,.refl _,G2,AV ((R.up e1).up e2) cap,h9⟩,?_⟩;rintro j m σ' H' ⟨γ',M3,W3,hj,rfl,e3,G3,R3,h3⟩;obtain⟨gv1,gv2⟩:=gv W3 M3 H' (e2.trans e3) G3;by_cases hlt:j<ys.length
 .obtain⟨go,yl⟩:=gv1 j ys[j] (B1 hlt);rw[J1 hlt]at h3;refine .inr ⟨go,fun σ4 H4=>∃γ4 M4 W4,W3.Ext W4/\Good K W4 M4 H4/\cF K W4 γ4 σ4/\dcF M1.length hg ft fk fe (ys.drop (j+1)) γ4 M4=some M',?_,fun y H4 hy=>?_⟩
  .rintro σ4 H4 ⟨γ4,M4,W4,e4,G4,R4,h4⟩;exact⟨_,by omega,γ4,M4,W4,hlt,rfl,e3.trans e4,G4,R4,h4⟩
  .obtain⟨W8,e8,G8,ry⟩:=yl y H4 hy;obtain⟨⟨γ5,M5⟩,h5,h3⟩:=aG (show(hg ys[j] γ' M3).bind _=_ from h3);obtain⟨⟨b6,M6⟩,h6,h3⟩:=aG h3;refine a _ _ _ _ _ h5 W8 _ σ' y _ G8 (R3.up e8) ry fun σ5 W5 H5 e5 G5 R5=>?_;refine c _ _ _ _ h6 W5 H5 σ5 _ G5 R5 fun W6 H6 e6 G6=>?_;have e36:=(e8.trans e5).trans e6;cases b6 with
   |true=>
    rw[A4 rfl]at h3;obtain⟨⟨ky,M7⟩,h7,h3⟩:=aG h3;obtain⟨⟨z,M10⟩,h10,h3⟩:=aG h3;obtain⟨M11,h11,h3⟩:=aG h3;refine .inl ⟨rfl,b _ _ _ _ h7 W6 H6 σ5 _ G6 (R5.up e6) fun yv W7 H7 e7 G7 r7=>e _ _ _ _ h10 W7 H7 σ5 _ G7 (R5.up (e6.trans e7)) fun v W10 H10 e10 G10 r10=>?_⟩;have e310:=(e36.trans e7).trans e10;obtain⟨p,H11,ep,g11,G11⟩:=zJ G10 h11 (rD.up (e3.trans e310)) (r7.up e10) r10;cases ep;exact⟨H11,g11,γ5,M11,W10,e310,G11,R5.up ((e6.trans e7).trans e10),h3⟩
   |false=>
    rw[A5 A6]at h3;exact .inr ⟨rfl,γ5,M6,W6,e36,G6,R5.up e6,h3⟩
 .have ej:j=ys.length:=by omega
  subst ej;rw[S2]at h3;cases h3;exact .inl ⟨gv2,k _ W3 H' ((e1.trans e2).trans e3) G3 (rD.up e3)⟩
variable{ι:Type}{X:ι->Cx}{N':List Str}{cap:List (Option Nat)}{scope:Scope}{tg' iter kx vx:Expr}{ifs:List Expr}{gf:GF}{fk:KF}{f:EF}{pos:Pos}
theorem aES(hu:∀i,(X i).A.units<cLine)(hc:∀i,(X i).calm=true)(S:∀i,oO (X i) N' cap scope)(x:MI K X tg' iter fa)(y:MG K (iR X N' scope) tg' gf)(z:MF K (iR X N' scope) ifs ft)(w:MK K (iR X N' scope) kx fk)(q:ME K (iR X N' scope) vx f)(hs:∀(env:Env)(x:Value),foldedSetIterable iter env x=pure x:=by intro _ _;rfl):
 ME K X (.DictComp kx vx [⟨tg',iter,ifs,0⟩] scope pos) (fDc (.dt []) cap fa gf ft fk f):=by
 obtain⟨t,x1,x2⟩:=x.ex;obtain⟨u,y1,y2⟩:=y.ex;obtain⟨v,z1,z2⟩:=z.ex;obtain⟨o,w1,w2⟩:=w.ex;obtain⟨p,q1,q2⟩:=q.ex;exact⟨_,fun i=>aHO (.inl rfl) (hu i) (hc i) (S i) (x1 i) (fun C s H fp pn=>y1 (i,C,s,H,fp,pn)) (fun C s H fp pn=>z1 (i,C,s,H,fp,pn)) (fun C s H fp pn=>w1 (i,C,s,H,fp,pn)) (fun C s H fp pn=>q1 (i,C,s,H,fp,pn)) (hs _),aHZ (.inl ⟨rfl,rfl⟩) x2 y2 z2 w2 q2⟩
end
theorem bS.u1{k:Nat}(r:bS k A):A.units+1<cLine:=by have:=r.un;omega
theorem bS.u0{k:Nat}(r:bS k A):A.units<cLine:=by have:=r.un;omega
noncomputable abbrev IPF:=Ga->Sto->Option ((List CD×(Sto->Prop))×Sto)
noncomputable def walked(M:Sto):CD->Option (List CD×(Sto->Prop))
 |.d x=>(bJ x).bind fun ds=>some (ds.map .d,fun _=>True)
 |.c i=>match M[i]? with
  |some (.lst xs)=>some (xs,fun M'=>M'[i]?=some (.lst xs))
  |_=>none
 |_=>none
section
variable{K:Fg}{ta:TE}{f:EF}{fp:IPF}{tg:TG}{hg:GF}{t:TS}{p:SF}
theorem LJ{x:CD}{v:V}{xs:List CD}{P:Sto->Prop}(h:walked M x=some (xs,P))(G:Good K W M H)(r:bP K W x v):
 ∃a,v=.ref a/\((∃vs,SqL K H a vs)/\(∀W' M' H',W.Ext W'->Good K W' M' H'->P M'->∃vs,SqL K H' a vs/\bM K W' xs vs)\/(∃vs,SqT K H a vs)/\∀W' M' H',W.Ext W'->Good K W' M' H'->P M'->∃vs,SqT K H' a vs/\bM K W' xs vs):=by
 unfold walked at h;split at h
 .rename_i y;obtain⟨ds,h2,h⟩:=aG h;cases h;obtain⟨a,vs,rfl,hs,hr⟩:=mU (show Rep K W.F y v from r) h2;refine⟨a,rfl,?_⟩;rcases hs with hs|hs
  .exact .inl ⟨⟨vs,G.fh.seq hs⟩,fun W' M' H' e G' _=>⟨vs,G'.fh.seq (e.ff.seq hs),bM.up (jQ hr) e⟩⟩
  .exact .inr ⟨⟨vs,G.fh.seqT hs⟩,fun W' M' H' e G' _=>⟨vs,G'.fh.seqT (e.ff.seqT hs),bM.up (jQ hr) e⟩⟩
 .rename_i i;split at h
  .rename_i ys hy;cases h;obtain⟨vs,hv,hr⟩:=G.lstAt hy;refine⟨_,r.2,.inl ⟨⟨vs,SqL.of hv⟩,fun W' M' H' e G' hP=>?_⟩⟩;obtain⟨us,hu,hr'⟩:=G'.lstAt hP;rw[e.al i r.1]at hu;exact⟨us,SqL.of hu,hr'⟩
  .cases h
 .cases h
end
section
variable{K:Fg}
noncomputable def KG(T:String)(f:EF):EF:=fun γ M=>(f γ M).bind fun r=>(snap 5 r.2 r.1).bind fun d=>some (.d (.bool (sO T d)),r.2)
noncomputable def GV(T U:String)(f:EF):EF:=fun γ M=>(f γ M).bind fun r=>(snap 5 r.2 r.1).bind fun d=>some (.d (.bool (sO T d || sO U d)),r.2)
theorem aDb{T:String}{ta:TE}{f:EF}(hT:T∈asked)(a:SE K ta f):SE K (tCB (aBh K) (iZ ta (iZ (tC (.ty T)) FA))) (KG T f):=by
 intro γ M x M' hh W H σ Q G R k;obtain⟨⟨y,M1⟩,h1,hh⟩:=aG hh;obtain⟨d,h2,hh⟩:=aG hh;cases hh;refine a _ _ _ _ h1 W H σ _ G R fun v W1 H1 e1 G1 r1=>?_;exact⟨v,T,d,rfl,hT,mL G1 5 y d v h2 r1,k _ W1 H1 e1 G1 rfl⟩
theorem YS{T U:String}{ta:TE}{f:EF}(hT:T∈asked)(hU:U∈asked)(a:SE K ta f):SE K (tCB (WS K) (iZ ta (iZ (NU (iZ (tC (.ty T)) (iZ (tC (.ty U)) FA))) FA))) (GV T U f):=by
 intro γ M x M' hh W H σ Q G R k;obtain⟨⟨y,M1⟩,h1,hh⟩:=aG hh;obtain⟨d,h2,hh⟩:=aG hh;cases hh;refine a _ _ _ _ h1 W H σ _ G R fun v W1 H1 e1 G1 r1=>?_;refine⟨by show 2<=sizeLine;decide,fun p hp=>?_⟩;obtain⟨e2,G2⟩:=G1.lay (o:=.tup [.ty T,.ty U]) hp;refine⟨v,p,[T,U],d,rfl,aP,fun S hS=>?_,mL G2 5 y d v h2 (r1.up e2),?_⟩
 .rcases List.mem_cons.mp hS with rfl|hS
  .exact hT
  .rw[List.mem_singleton.mp hS];exact hU
 .have:=k (.bl (sO T d || sO U d)) _ _ (e1.trans e2) G2 rfl;simpa[List.any]using this
variable{ι:Type}{X:ι->Cx}{a:Expr}{f:EF}{pos:Pos}
theorem PL{T:String}{y:Str}{p p':Pos}(hK:∀i,(X i).K=K)(hT:T∈asked)(x:ME K X a f)(hs:BX a [.Name y p'])(hm:∀i,(X i).mg "isinstance"=none)(hmy:∀i,(X i).mg y=none)(hb:bootBuiltins y=some (.type T))(hg:∀i,Gl (X i) "isinstance":=by intro _;rfl)(hgy:∀i,Gl (X i) y:=by intro _;rfl)
 (hn:y≠"__name__":=by decide) (hd:(y==("__debug__":Str))=false:=by decide):ME K X (.Call (.Name "isinstance" p) [a,.Name y p'] [] pos) (KG T f):=by
 obtain⟨t,x1,x2⟩:=x.ex;refine⟨_,fun i=>pW (aHr (hK i)) (hg i) (hm i) boot_isinstance (dU (x1 i) (dU (uD (v:=.ty T) (hgy i) (hmy i) hb rfl hn hd) pO aX) (hs _)) (by decide) (by decide) (hs _) (kK aX rK),aDb hT x2⟩
theorem aAF{T U:String}{y z:Str}{p p' p'' p3:Pos}{k:Nat}(hK:∀i,(X i).K=K)(hT:T∈asked)(hU:U∈asked)(x:ME K X a f)(hs:BX a [.Tuple [.Name y p',.Name z p''] k p3])(hm:∀i,(X i).mg "isinstance"=none)(hmy:∀i,(X i).mg y=none)(hmz:∀i,(X i).mg z=none)
 (hb:bootBuiltins y=some (.type T)) (hbz:bootBuiltins z=some (.type U)) (hg:∀i,Gl (X i) "isinstance":=by intro _;rfl) (hgy:∀i,Gl (X i) y:=by intro _;rfl) (hgz:∀i,Gl (X i) z:=by intro _;rfl)
 (hn:y≠"__name__":=by decide) (hd:(y==("__debug__":Str))=false:=by decide) (hn':z≠"__name__":=by decide) (hd':(z==("__debug__":Str))=false:=by decide):ME K X (.Call (.Name "isinstance" p) [a,.Tuple [.Name y p',.Name z p''] k p3] [] pos) (GV T U f):=by
 obtain⟨t,x1,x2⟩:=x.ex;refine⟨_,fun i=>pW (aIk (hK i)) (hg i) (hm i) boot_isinstance (dU (x1 i) (dU (sR (dU (uD (v:=.ty T) (hgy i) (hmy i) hb rfl hn hd) (dU (uD (v:=.ty U) (hgz i) (hmz i) hbz rfl hn' hd') pO aX) aX)) pO jJ) (hs _)) (by decide) (by decide) (hs _) (kK jJ rK),YS hT hU x2⟩
end
end L2
namespace PySem
open Sem (wp)
theorem GM{prog:Program}{w:World}{A:Around}{E:Value->Shared->Prop}{s:Shared}{a:Addr}{xs:Array Value}{k:Nat}{sl:Array (Option Value)}{name:Str}{Q:Option Value->Shared->Prop}
 (hx:s.heap.get? a=some { cls:=.type "list",dict:=none,data:=.seq xs k,slots:=sl }) (hmiss:typeLookup (.type "list") name=pure none) (hname:(["__module__","__name__","__qualname__","__doc__","__annotations__"]:List Str).contains name=false) (hA:A.handled=none)
 (h:∀h' tk,(∀b ob,s.heap.get? b=some ob->h'.get? b=some ob)->Q none { s with heap:=h',toks:=tk }) (hsz:name.length+100<=sizeLine):
 wpAny (model prog w) A (getAttr? (.ref a) name) Q E s:=by
 obtain⟨hp,g,d,tk,os⟩:=s;have hT:∀tk',(⟨hp,g,d,tk',os⟩:Shared).TypeIs (.ref a) "list":=fun _=>⟨_,hx,rfl⟩;have f1:=sub_AttributeError;have f3:=F.slot_list_getattribute.lookup;have f4:=F.slot_list_getattribute.bind (.ref a);have f5:=am_list_getattr_none;unfold getAttr? getAttrBy?
 repeat (any_goals (first|assumption|exact hT _|((with_reducible show wpAny _ _ (call (Value.builtin "list.__getattribute__") _ _) _ _ _);refine call_meets F.slot_list_getattribute (hT _) am_entry_list_getattribute (F.args_list_getattribute_2 _ _) (meets_getattribute_miss_list a xs k sl name _ hmiss hname hsz) ⟨hx,hA,fun h' tk' e hx'=>?_⟩)|wp_step))
 obtain⟨t',u',he⟩:=hx'.there;show wpAny _ _ (getattributeRaised _ _ _ _ _ _ _) _ _ _;unfold getattributeRaised
 repeat (any_goals (first|assumption|wp_step))
 exact h _ _ hx'.keeps
namespace F
theorem l2_list_keys:typeLookup (.type "list") "keys"=pure none:=by rw[typeLookup_type,builtinLookup_eq_fast];kernel_rfl
theorem l2_entry_upd:entryFor table "dict.update.loop"=some Builtin.«dict.update.loop»:=entryFor_of_tree (by kernel_rfl)
theorem l2_plain_upd:plainId "dict.update.loop"=true:=by decide +kernel
end F
end PySem
namespace L2
variable{H H':Hp}
open PySem PySem.Spec PyProof.Rows
noncomputable def putAll(D:Addr):List V->Hp->(Hp->Prop)->Prop
 |[],H,k=>k H
 |v::vs,H,k=>∃q y x H',v=.ref q/\H q=some (.tup [y,x])/\qK H D y x H'/\putAll D vs H' k
section
variable{X:Cx}{pins:List (Addr×Obj)}{σ:St}
theorem qK.other{D b:Addr}{y v:V}{o:HO}(g:qK H D y v H')(hb:H b=some o)(hn:∀kvs,o≠.dK kvs)(hn':∀kvs,o≠.dT kvs):H' b=some o:=by
 rcases g with⟨kvs,k,e,_,_,rfl⟩|⟨kvs,k,c,e,_,_,_,rfl⟩
 .rw[aJ (fun z=>by rw[z,e]at hb;cases hb;exact hn _ rfl)];exact hb
 .rw[aJ (fun z=>by rw[z,e]at hb;cases hb;exact hn' _ rfl)];exact hb
theorem qK.none{D b:Addr}{y v:V}(g:qK H D y v H')(hb:H b=.none):H' b=.none:=by
 rcases g with⟨kvs,k,e,_,_,rfl⟩|⟨kvs,k,c,e,_,_,_,rfl⟩
 .rw[aJ (fun z=>by rw[z,e]at hb;cases hb)];exact hb
 .rw[aJ (fun z=>by rw[z,e]at hb;cases hb)];exact hb
theorem VX{D b:Addr}{y v:V}(g:qK H D y v H')(f:mT X pins H b):mT X pins H' b:=⟨g.none f.1,f.2⟩
theorem WB{A:Around}{R:Result->Shared->Prop}{D it p:Addr}{vs:List V}{k:Hp->Prop}(hA:A.in1.handled=none)(hu:A.in1.units<cLine)(hR:∀H s,Inv X pins σ H s->k H->R (.ok (.ret .none)) s):
 ∀(n i:Nat)(j:Int)(tk:Tok)(H:Hp)(s:Shared),vs.length-i=n->i<=vs.length->Inv X pins σ H s->s.heap.IsListIter it p i->mT X pins H it->H p=some (.lst vs)->putAll D (vs.drop i) H k->
  codeAny (model X.prog X.w) A (.builtin "dict.update.loop" ⟨[.ref D,.ref it,.int j tk,.none],[]⟩) R s:=by
 intro n
 induction n with
 |zero=>
  intro i j tk H s hn hi I st f hp h;have e:i=vs.length:=by omega
  subst e;rw[S2]at h;obtain⟨its,rv,pl,hz⟩:=I.list (SqL.of hp);refine Z9 PySem.F.l2_entry_upd ?_;rw[S8 PySem.F.l2_plain_upd _];show wpAny _ A.in1 (pyNext (.ref it) >>= _) _ _ s;have hl:=rv.length;refine A0 (wpAny_pyNext_list_end hA st pl.isList (by simp;omega) fun h' eb=>?_);show wpAny _ A.in1 (Builtin.Dict.addKeywords D [] >>= fun _=>ret Value.none) _ _ _;refine A0 (A3 (A3 (hR H _ (I.turned (t':=s.toks) (fun b o hb e=>eb b o hb e) f.1 f.2.1 f.2.2.2.1 f.2.2.2.2.1 f.2.2.2.2.2) h)))
 |succ n ih=>
  intro i j tk H s hn hi I st f hp h;have hlt:i<vs.length:=by omega
  rw[J1 hlt]at h;obtain⟨q,y,x,H',ev,hq,g,h⟩:=h;obtain⟨its,rv,pl,hz⟩:=I.list (SqL.of hp);obtain⟨u,hu',ru⟩:=rv.get (B1 hlt);rw[ev]at ru;obtain rfl:u=Value.ref q:=ru;refine Z9 PySem.F.l2_entry_upd ?_;rw[S8 PySem.F.l2_plain_upd _];show wpAny _ A.in1 (pyNext (.ref it) >>= _) _ _ s;refine A0 (wpAny_pyNext_list_item st pl.isList (x:=.ref q) (by simpa using hu') fun h' st' sb=>?_);have I1:Inv X pins σ H { s with heap:=h' }:=I.turned (t':=s.toks) (fun b o hb e=>(sb.2 b hb).trans e) f.1 f.2.1 f.2.2.2.1 f.2.2.2.2.1 f.2.2.2.2.2;obtain⟨jts,rw',ht,_⟩:=I1.tuple (SqT.of hq);cases rw' with
  |@cons _ ku _ r ry rr=>
   cases rr with
   |@cons _ xu _ r2 rx rr2=>
    cases rr2;obtain⟨o,ho,hc,m,hd⟩:=ht;refine A0 (D4 (A0 (wpAny_tryCatch ?_)));unfold Builtin.Dict.pairItems;refine A0 (Y3 (show({ s with heap:=h' }:Shared).TypeIs (.ref q) "tuple" from⟨o,ho,hc⟩) ?_);rw[A4 (by decide)];refine A0 (wpAny_seqItems ho hd (A3 ?_));obtain⟨oi,ei,ci,di⟩:=id st';have I1p:=I1.pinned (fp:=[it]) (fun b hb=>by rw[List.mem_singleton.mp hb];exact f) (fun b hb=>by rw[List.mem_singleton.mp hb];exact⟨oi,ei,fun v z=>by rw[di]at z;cases z⟩);refine D4 (DA hu I1p g ry rx fun s2 I2=>?_);have e2:s2.heap.get? it=some oi:=(I2.pin (it,oi) (B9 _ (B9 _ (gI (List.mem_singleton.mpr rfl) ei)))).1;refine A3 ⟨Z5 PySem.F.l2_plain_upd _,?_⟩;have I3:Inv X pins σ H' s2:=I2.pins_of fun p hp=>I2.pin p (B9 _ (E6 _ hp));exact ih (i+1) _ _ H' s2 (by omega) hlt I3 ⟨oi,e2,ci,di⟩ (VX g f) (g.other hp (fun _ z=>nomatch z) (fun _ z=>nomatch z)) h
noncomputable def YK:List V->Hp->VK->Prop:=fun xs H Q=>∃p vs,xs=[.ref p]/\H p=some (.lst vs)/\∀D,H D=none->putAll D vs (upd H D (.dT [])) fun H2=>Q (.ref D) H2
theorem LX(hc:X.calm=true)(hu:X.A.in1.in1.units+64<cLine):eD X (.type "dict") YK:=by
 intro pins s σ H xs us Q I r h;obtain⟨p,vs,rfl,hp,h⟩:=h;obtain⟨u,rfl,ru⟩:=vals1 r;cases ru;have hD:H s.heap.objs.size=none:=I.hok.fresh (A7 _);have h:=h _ hD;refine callType_codes (Q₁:=fun obj s₁=>obj=.ref s.heap.objs.size/\s₁={ s with heap:=s.heap.push { cls:=.type "dict",data:=.dict #[] } }) PySem.F.kt_called_dict (PySem.F.kt_typeCall_dict_1 _) PySem.F.entry_dict_init (kt_code_dict_new _ ⟨rfl,rfl⟩) ?_;rintro obj s₁ ⟨rfl,rfl⟩;have I1:Inv X pins σ (upd H s.heap.objs.size (.dT [])) { s with heap:=s.heap.push { cls:=.type "dict",data:=.dict #[] } }:=I.laid (t':=s.toks) (fun _ _ q=>A2 _ q) (A7 _) (zL _ I.big);have hp1:upd H s.heap.objs.size (.dT []) p=some (.lst vs):=by rw[aJ (aO hp hD)];exact hp
 have hT:({ s with heap:=s.heap.push { cls:=.type "dict",data:=.dict #[] } }:Shared).TypeIs (.ref s.heap.objs.size) "dict":=⟨_,B0 _ rfl,rfl⟩;refine⟨hT,PySem.F.args_dict_init_2 _ _,?_⟩;unfold Builtin.«dict.__init__»;refine A0 ?_;unfold Builtin.Dict.selfAndRest;refine A0 (wpAny_notOrdered_dict hT ?_);show wpAny _ _ (pure (s.heap.objs.size,[Value.ref p])) _ _ _;refine A3 ?_;show wpAny _ _ (Builtin.Dict.updateFrom "dict.__init__" s.heap.objs.size (.ref p) [] .none) _ _ _;unfold Builtin.Dict.updateFrom;obtain⟨z,its,n,rv,e⟩:=(show cK X.prog X.w _ _ p (.lst vs)from I1.hok p _ hp1);refine A0 (Y3 (show Shared.TypeIs _ (.ref p) "list" from⟨_,e,rfl⟩) ?_);rw[A4 (by decide)];refine A0 (GM e PySem.F.l2_list_keys (by decide +kernel) (I.ok.hd hc) (fun h' tk hk=>?_) (by rw[D5];decide));have I2:Inv X pins σ (upd H s.heap.objs.size (.dT [])) { s with heap:=h',toks:=tk }:=I1.kept hk;rw[A4 (show(none:Option Value).isNone=true from rfl)];refine A0 (wpAny_rule ?_);obtain⟨z2,its2,n2,rv2,e2⟩:=(show cK X.prog X.w _ _ p (.lst vs)from I2.hok p _ hp1);refine A0 (wpAny_pyIter_list (s:={ s with heap:=h',toks:=tk }) ⟨_,e2,rfl,n2,rfl⟩ ?_);refine A3 ⟨Z5 PySem.F.l2_plain_upd _,?_⟩;have I3:Inv X pins σ (upd H s.heap.objs.size (.dT [])) { s with heap:=h'.push { cls:=.type "list_iterator",data:=.fields #[.ref p,.int 0 0] },toks:=tk }:=I2.kept fun _ _ q=>A2 _ q;exact WB (A:=X.A.in1) (D:=s.heap.objs.size) (vs:=vs) (k:=fun H2=>Q (.ref s.heap.objs.size) H2) (I.ok.hd hc) (by omega) (fun H2 s2 J q=>⟨rfl,.ref s.heap.objs.size,H2,J,rfl,q⟩) vs.length 0 0 0 _ _ (Nat.sub_zero _) (E3 _) I3 ⟨_,B0 _ rfl,rfl,rfl⟩ (I2.fpOk (A7 _) (I2.hok.fresh (A7 _))) hp1 h
end
noncomputable def lW(g:GF)(c:TF)(fk:KF)(e:EF):List CD->Ga->Sto->Option (List (KY×CD)×Sto)
 |[],_,M=>some ([],M)
 |x::xs,γ,M=>(g x γ M).bind fun a=>(c a.1 a.2).bind fun b=>if b.1=true then(fk a.1 b.2).bind fun k=>(e a.1 k.2).bind fun v=>(lW g c fk e xs a.1 v.2).bind fun q=>some ((k.1,v.1)::q.1,q.2)else lW g c fk e xs a.1 b.2
noncomputable def wQ(d:Nat):List (KY×CD)->Sto->Option Sto
 |[],M=>some M
 |p::r,M=>(uK M (.c d) p.1 p.2).bind fun M'=>wQ d r M'
noncomputable def fDL(cap:List (Option Nat))(f:AF)(g:GF)(c:TF)(fk:KF)(e:EF):EF:=fun γ M=>(f γ M).bind fun r=>if r.1.length<=sizeLine then(lW g c fk e r.1 (qN cap γ) r.2).bind fun q=>(wQ q.2.length q.1 (q.2++[.dt []])).bind fun M'=>some (.c q.2.length,M')else none
noncomputable def PR(K:Fg)(W:Wd)(p:KY×CD)(v:V):Prop:=∃q y x,v=.ref q/\W.F q=some (.tup [y,x])/\NV W p.1 y/\bP K W p.2 x
section
variable{K:Fg}{tg:TG}{tt:TT}{hg:GF}{ft:TF}{fa:AF}{tk tv:TE}{fk:KF}{fe:EF}
theorem PR.up{W W':Wd}{p:KY×CD}{v:V}(h:PR K W p v)(e:W.Ext W'):PR K W' p v:=by
 obtain⟨q,y,x,h1,h2,h3,h4⟩:=h;exact⟨q,y,x,h1,e.ff _ _ h2,h3.up e,h4.up e⟩
theorem OG{D:Addr}{d:Nat}:∀{ps:List (KY×CD)}{vs:List V}{W:Wd}{M M':Sto}{H:Hp}{k:Hp->Prop},wQ d ps M=some M'->Good K W M H->bP K W (.c d) (.ref D)->Paired (PR K W) ps vs->(∀H',Good K W M' H'->k H')->putAll D vs H k
 |_,_,W,M,M',H,k,h,G,rD,.nil=>fun c=>by cases h;exact c H G
 |p::ps,v::vs,W,M,M',H,k,h,G,rD,.cons r1 r2=>fun c=>by
  obtain⟨M1,h1,h⟩:=aG (show(uK M (.c d) p.1 p.2).bind _=_ from h);obtain⟨q,y,x,rfl,hq,ry,rx⟩:=r1;obtain⟨a,H1,ea,g,G1⟩:=zJ G h1 rD ry rx;cases ea;exact⟨q,y,x,H1,rfl,G.fh _ _ hq,g,OG h G1 rD r2 c⟩
theorem aHd{wi:TI}{cap:List (Option Nat)}(i:SI K wi fa)(a:SG K tg hg)(c:STt K tt ft)(b:SK K tk fk)(e:SE K tv fe):
 SE K (tCB YK (iZ (tLc cap wi tg tt (NU (iZ tk (iZ tv FA)))) FA)) (fDL cap fa hg ft fk fe):=by
 intro γ M x M' hh W H σ Q G R k;obtain⟨⟨ys,M1⟩,h1,hh⟩:=aG hh;by_cases hl:ys.length<=sizeLine
 .have hh:(if ys.length<=sizeLine then(lW hg ft fk fe ys (qN cap γ) M1).bind fun q=>(wQ q.2.length q.1 (q.2++[.dt []])).bind fun M'=>some (CD.c q.2.length,M')else none)=some (x,M'):=hh;rw[A4 hl]at hh;obtain⟨⟨xs,M8⟩,h8,hh⟩:=aG hh;obtain⟨M9,h9,hh⟩:=aG hh;cases hh;refine i _ _ _ _ h1 W H σ _ G R fun J W1 H1 e1 G1 gv=>?_
  refine⟨fun j m acc σ' H'=>∃γ' M2 W2 pre suf,j<=ys.length/\m=ys.length-j/\acc.length<=j/\W1.Ext W2/\Good K W2 M2 H'/\cF K W2 γ' σ'/\Paired (PR K W2) pre acc/\pre++suf=xs/\lW hg ft fk fe (ys.drop j) γ' M2=some (suf,M8),
   ⟨_,qN cap γ,M1,W1,[],xs,E3 _,rfl,E3 _,.refl _,G1,AV (R.up e1) cap,.nil,rfl,h8⟩,?_⟩
  rintro j m acc σ' H' ⟨γ',M2,W2,pre,suf,hj,rfl,hacc,e2,G2,R2,rp,hx,h2⟩;obtain⟨gv1,gv2⟩:=gv W2 M2 H' e2 G2;by_cases hlt:j<ys.length
  .obtain⟨go,yl⟩:=gv1 j ys[j] (B1 hlt);rw[J1 hlt]at h2;refine .inr ⟨go,by omega,fun acc3 σ3 H3=>∃γ3 M3 W3 pre3 suf3,acc3.length<=j+1/\W2.Ext W3/\Good K W3 M3 H3/\cF K W3 γ3 σ3/\Paired (PR K W3) pre3 acc3/\pre3++suf3=xs/\lW hg ft fk fe (ys.drop (j+1)) γ3 M3=some (suf3,M8),?_,fun y H3 hy=>?_⟩
   .rintro acc3 σ3 H3 ⟨γ3,M3,W3,pre3,suf3,hl3,e3,G3,R3,rp3,hx3,h3⟩;exact⟨_,by omega,γ3,M3,W3,pre3,suf3,hlt,rfl,hl3,e2.trans e3,G3,R3,rp3,hx3,h3⟩
   .obtain⟨W8,e8,G8,ry⟩:=yl y H3 hy;obtain⟨⟨γ4,M4⟩,h4,h2⟩:=aG (show(hg ys[j] γ' M2).bind _=_ from h2);obtain⟨⟨b5,M5⟩,h5,h2⟩:=aG h2;refine a _ _ _ _ _ h4 W8 _ σ' y _ G8 (R2.up e8) ry fun σ4 W4 H4 e4 G4 R4=>?_;refine c _ _ _ _ h5 W4 H4 σ4 _ G4 R4 fun W5 H5 e5 G5=>?_;have e25:=(e8.trans e4).trans e5;cases b5 with
    |true=>
     rw[A4 rfl]at h2;obtain⟨⟨ky,M6⟩,h6,h2⟩:=aG h2;obtain⟨⟨z,M7⟩,h7,h2⟩:=aG h2;obtain⟨⟨zs,M10⟩,h10,h2⟩:=aG h2;cases h2;refine .inl ⟨rfl,b _ _ _ _ h6 W5 H5 σ4 _ G5 (R4.up e5) fun yv W6 H6 e6 G6 r6=>e _ _ _ _ h7 W6 H6 σ4 _ G6 (R4.up (e5.trans e6)) fun xv W7 H7 e7 G7 r7=>⟨by show 2<=sizeLine;decide,fun q hq=>?_⟩⟩;obtain⟨e9,G9⟩:=G7.lay (o:=.tup [yv,xv]) hq;have e29:=((e25.trans e6).trans e7).trans e9;refine⟨γ4,M7,_,pre++[(ky,z)],zs,by rw[B2];simp only[List.length_singleton];omega,e29,G9,R4.up (((e5.trans e6).trans e7).trans e9),Paired.app (Paired.mapP rp fun _ _ r=>PR.up r e29) (.cons ⟨q,yv,xv,rfl,aP,(r6.up e7).up e9,r7.up e9⟩ .nil),by rw[<- hx,C1];rfl,h10⟩
    |false=>
     rw[A5 A6]at h2;exact .inr ⟨rfl,γ4,M5,W5,pre,suf,by omega,e25,G5,R4.up e5,Paired.mapP rp fun _ _ r=>PR.up r e25,hx,h2⟩
  .have ej:j=ys.length:=by omega
   subst ej;rw[S2]at h2;cases h2;rw[C6]at hx;subst hx;refine .inl ⟨gv2,fun p hp=>⟨p,acc,rfl,aP,fun D hD=>?_⟩⟩;have G3:=G2.extra (o:=.lst acc) hp;have G4:Good K (W2.more D) (M8++[.dt []]) (upd (upd H' p (.lst acc)) D (.dT [])):=G3.new hD .nil;have e4:=W2.ext_more D;exact OG h9 G4 G3.newV (Paired.mapP rp fun _ _ r=>PR.up r e4) fun H5 G5=>k _ _ H5 ((e1.trans e2).trans e4) G5 G3.newV
 .have hh:(if ys.length<=sizeLine then(lW hg ft fk fe ys (qN cap γ) M1).bind fun q=>(wQ q.2.length q.1 (q.2++[.dt []])).bind fun M'=>some (CD.c q.2.length,M')else none)=some (x,M'):=hh;rw[A5 hl]at hh;cases hh
variable{ι:Type}{X:ι->Cx}{N':List Str}{cap:List (Option Nat)}{scope:Scope}{tg' iter vx:Expr}{kxs ifs:List Expr}{gf:GF}{fka:AF}{f:EF}{pos p kpos tpos lpos:Pos}{m n:Nat}
theorem aIy(hK:∀i,(X i).K=K)(hu:∀i,(X i).A.in1.in1.units+64<cLine)(hc:∀i,(X i).calm=true)(hm:∀i,(X i).mg "dict"=none)(S:∀i,oO (X i) N' cap scope)(x:MI K X tg' iter fa)(y:MG K (iR X N' scope) tg' gf)(z:MF K (iR X N' scope) ifs ft)(w:MA K (iR X N' scope) kxs fka)(q:ME K (iR X N' scope) vx f)
 (sv:BX vx []) (hs:∀(env:Env)(x:Value),foldedSetIterable iter env x=pure x:=by intro _ _;rfl) (hg:∀i,Gl (X i) "dict":=by intro _;rfl):
 ME K X (.Call (.Name "dict" p) [.ListComp (.Tuple [.Tuple kxs m kpos,vx] n tpos) [⟨tg',iter,ifs,0⟩] scope lpos] [] pos) (fDL cap fa gf ft (kQ fka) f):=by
 obtain⟨t,x1,x2⟩:=x.ex;obtain⟨u,y1,y2⟩:=y.ex;obtain⟨v,z1,z2⟩:=z.ex;obtain⟨o,w1,w2⟩:=w.ex;obtain⟨r,q1,q2⟩:=q.ex;refine⟨_,fun i=>CW (LX (hc i) (hu i)) (hg i) (hm i) boot_dict (dU (aDo (hc i) (S i) (x1 i) (fun C s H fp pn=>y1 (i,C,s,H,fp,pn)) (fun C s H fp pn=>z1 (i,C,s,H,fp,pn)) (fun C s H fp pn=>sR (dU (sR (w1 (i,C,s,H,fp,pn))) (dU (q1 (i,C,s,H,fp,pn)) pO (sv _)) jJ)) (hs _)) pO rX) (by decide) (by decide) rX rfl,aHd x2 y2 z2 (WV w2) q2⟩
end
theorem bS.le{ι:Type}{j k:Nat}{A:Around}{q:Bool}(r:bS k A q)(h:j<=k:=by decide):ι->bS j A q:=fun _=>r.mono h
noncomputable def yY(C:Addr)(sp:Sp)(EE:St->XK)(t:TA):TE:=fun σ H Q=>aHE C sp [] (EE σ) t σ H Q
theorem aAe{X:Cx}{EE:St->XK}{C f:Addr}{k:Nat}{x:Str}{fd:FuncData}{ps:List Str}{sp:Sp}{p pos:Pos}{e:Expr}{es:List Expr}{t:TA}(ok:XOk X EE)(M:Mk X.K C f)(F:gP X.prog X.w X.K X.mg X.base (CX1 X.prog X.w) k f fd ps sp)(hr:bS (k+1) X.A)
 (hg:Gl X x) (hm:X.mg x=some (.ref C)) (hb:Binds X.K fd ps []) (ha:PA X (e::es) t) (hdb:(x==("__debug__":Str))=false) (he:starEach (e::es) X.env=(false,eval e X.env)::starEach es X.env) (hpl:(backTo pos (starEach es X.env)).any (·.1)=false):
 PE X (.Call (.Name x p) (e::es) [] pos) (yY C sp EE t):=by
 intro pins s σ H Q I h;refine J4 (lA I hg hm ?_ hdb);refine O0 (h₀:=X.base) I.ok.mod.kin M.kp (thn (ha pos pins s σ H _ I h) fun us s1 ⟨vs,H1,I1,r,q⟩=>⟨I1.kIn,?_⟩) he hpl;exact IR M F hr hb .nil (fun _ _ _ _ I' z=>ok.pass _ _ (XY ok.bd I' z)) I1 r q
noncomputable def IS(nm:Str)(h:FX)(fa:AF):EX:=fun γ M=>(fa γ M).bind fun r=>(h (.c r.2.length::r.1) (r.2++[.obj nm []])).bind fun q=>match q.1 with
 |.x e=>some (.x e,q.2)
 |.v y=>if sF y=true then some (.v (.c r.2.length),q.2)else none
noncomputable def PU(nm f:Str)(eo:EF)(ev:EX):SFX:=fun γ M=>(ev γ M).bind fun r=>match r.1 with
 |.x e=>some (.xc γ e,r.2)
 |.v v=>(eo γ r.2).bind fun o=>(objOf nm o.2 o.1).bind fun p=>if p.2.length<1000 then some (.o (.nx γ),o.2.set p.1 (.obj nm (vU f v p.2)))else none
section
variable{K:Fg}{EE:St->XK}{ta tv:TE}{tA:TA}
theorem ZL{nm:Str}{h:FX}{fa:AF}(b:SA K tA fa):SEX K EE (yY (aR K nm) (spX K h) EE tA) (IS nm h fa):=by
 intro γ M r M' hh W H σ Q G R k;obtain⟨⟨ys,M1⟩,h1,hh⟩:=aG hh;obtain⟨⟨z,M2⟩,h2,hh⟩:=aG hh;refine b _ _ _ _ h1 W H σ _ G R fun vs W1 H1 e1 G1 r1=>?_;intro p dx hp hdx hne;rw[C6];have Ga:=G1.extra (o:=.own p) hdx;have hp':(upd H1 dx (.own p)) p=none:=by rw[aJ (F0 hne)];exact hp
 have Gb:=Ga.new hp' (c:=.obj nm []) (o:=.ins (aR K nm) dx []) ⟨rfl,.nil⟩;have e2:=W1.ext_more p;refine⟨.c M1.length::ys,M1++[.obj nm []],W1.more p,z,M2,Gb,.cons G1.newV (bM.up r1 e2),h2,fun W3 H3 e3 G3=>?_⟩;cases z with
 |x e=>cases hh;exact k W3 H3 ((e1.trans e2).trans e3) G3
 |v y=>
  have hh:(if sF y=true then some (Rs.v (.c M1.length),M2)else none)=some (r,M'):=hh;by_cases hy:sF y=true
  .rw[A4 hy]at hh;cases hh;have:=zV hy;subst this;exact fun v rv=>⟨rv,k W3 H3 ((e1.trans e2).trans e3) G3 _ (G1.newV.up e3)⟩
  .rw[A5 hy]at hh;cases hh
theorem aAP{nm f:Str}{eo:EF}{ev:EX}(c:Cls K (aR K nm))(n:eX K (aR K nm) f)(a:SE K ta eo)(b:SEX K EE tv ev):SSX K EE (aCI K ta tv f) (PU nm f eo ev):=by
 intro γ M o M' hh W H σ D G R k;obtain⟨⟨y,M1⟩,h1,hh⟩:=aG hh;refine b _ _ _ _ h1 W H σ _ G R fun W1 H1 e1 G1=>?_;cases y with
 |x e=>cases hh;exact fun c dx z=>k W1 H1 e1 G1 σ c dx (R.up e1) z
 |v y=>
  intro v r1;obtain⟨⟨z,M2⟩,h2,hh⟩:=aG (show(eo γ M1).bind _=_ from hh);obtain⟨⟨i,fs⟩,h3,hh⟩:=aG hh;have hh:(if fs.length<1000 then some (RA.o (.nx γ),M2.set i (.obj nm (vU f y fs)))else none)=some (o,M'):=hh;by_cases hl:fs.length<1000
  .rw[A4 hl]at hh;cases hh;refine a _ _ _ _ h2 W1 H1 σ _ G1 (R.up e1) fun u W2 H2 e2 G2 r2=>?_;obtain⟨rfl,hM⟩:=pD h3;obtain⟨dx,us,hH,hp⟩:=G2.objAt hM;refine⟨W2.α i,_,dx,us,r2.2,hH,c,n,by rw[<- Paired.len hp];exact hl,?_⟩;exact k W2 _ (e1.trans e2) (G2.set hM (by intro q;cases q) (c':=.obj nm (vU f y fs)) (o':=.ins (aR K nm) dx (mJ f v us)) ⟨rfl,zK (r1.up e2) hp⟩) σ (R.up (e1.trans e2))
  .rw[A5 hl]at hh;cases hh
end
structure uB(P:Program)(w:World)(K:Fg)(mg:Str->Option Value)(base:Heap)(k:Nat)(nm:Str)(ps:List Str)(sp:Sp):Prop where
 ex:∃f fd,gP P w K mg base (CX1 P w) k f fd ps sp/\Mk K (aR K nm) f/\Binds K fd ps []/\mg nm=some (.ref (aR K nm))
section
variable{ι:Type}{K:Fg}{X:ι->Cx}{EE:ι->St->XK}{e o:Expr}{es:List Expr}{f:EX}{g:EF}{fa:AF}{pos:Pos}
theorem aFA{nm fl:Str}(hK:∀i,(X i).K=K)(hc:Cls K (aR K nm))(hn:eX K (aR K nm) fl)(x:MX K X EE o f)(hb:∀env:Env,attributeBase o fl env (eval o env)=eval o env:=by intro _;rfl):MX K X EE (.Attribute o fl pos) (RI nm fl f):=by
 obtain⟨t,x1,x2⟩:=x.ex;refine⟨fun i=>aBm K (t i) fl,fun i=>?_,fun i=>aCj hc hn (x2 i)⟩;have:=aAy (x1 i) (hb _) (pos:=pos);rw[hK i]at this;exact this
theorem aCf{nm fl:Str}{pos':Pos}(hK:∀i,(X i).K=K)(hc:Cls K (aR K nm))(hn:eX K (aR K nm) fl)(x:ME K X o g)(y:MX K X EE e f)(hs:∀i,swapsWith e (some (.Attribute o fl pos')) pos.line (X i).env=pure false:=by intro _;rfl):
 MSX K X EE (.Assign [.Attribute o fl pos'] e pos) (PU nm fl g f):=by
 obtain⟨t,x1,x2⟩:=x.ex;obtain⟨u,y1,y2⟩:=y.ex;refine⟨fun i=>aCI K t (u i) fl,fun i=>?_,fun i=>aAP hc hn x2 (y2 i)⟩;have:=YT (x1 i) (y1 i) (hs i);rw[hK i]at this;exact this
theorem aBN{k:Nat}{nm:Str}{ps:List Str}{F:FX}{p:Pos}(ok:∀i,XOk (X i) (EE i))(C:∀i,uB (X i).prog (X i).w (X i).K (X i).mg (X i).base k nm ps (spX K F))(hK:∀i,(X i).K=K)(hr:∀i,bS (k+1) (X i).A)(y:MA K X (e::es) fa)(hg:∀i,Gl (X i) nm:=by intro _;rfl)(hd:(nm==("__debug__":Str))=false:=by decide):
 MX K X EE (.Call (.Name nm p) (e::es) [] pos) (IS nm F fa):=by
 obtain⟨u,y1,y2⟩:=y.ex;refine⟨fun i=>yY (aR K nm) (spX K F) (EE i) u,fun i=>?_,fun i=>ZL y2⟩;obtain⟨f,fd,F',M,B,m⟩:=(C i).ex;have:=aAe (ok i) M F' (hr i) (hg i) m B (y1 i) hd (y.st.1 _) (y.st.2.plain _ _) (p:=p) (pos:=pos);rw[hK i]at this;exact this
end
section
variable{P:Program}{w:World}{K:Fg}{mg:Str->Option Value}{base:Heap}
theorem CJ.okR{nm qual:Str}{st:Stmt}{N ps:List Str}{k:Nat}{b:SFX}(D:CJ K nm "__init__" qual st)(hm:PySem.W.makesIn K (aR K nm)=true)(hk:PySem.W.keepIn K (.ref (aR K nm))=true)(hg:mg nm=some (.ref (aR K nm)))(S:aS N ps (aH st))
 (hb:∀(kV doc pm:Value)(an:Option Addr)(cdv ct:Value)(us:List Value),us.length=ps.length->bindArgs (PySem.W.fnOf "__init__" qual (cR st) (bF st) (aH st) .none kV doc pm an cdv ct) ⟨us,[]⟩=pure (ps.zip us))
 (hbody:∀(f:Addr)(cdv:Value)(A:Around)(outer:List Env)(s:Shared)(H:Hp)(E:XK),bS k (A.deeper (envOfC qual (aH st) s.heap.objs.size f cdv))->
  MLX K (aBy P w K mg base N qual st f cdv A outer s H E) (fun _ _=>E) (bF st) b):uB P w K mg base (k+1) nm ps (spX K (fnX ps.length N.length b)):=by
 obtain⟨f,fd,F,h1,h2⟩:=D.ex;exact⟨f,fd,F.okXF S hbody,⟨hm,h1,h2,hk⟩,F.binds hb,hg⟩
end
end L2
namespace PySem
open PySem.Calls PyProof.Rows
section
variable{prog:Program}{w:World}{A:Around}{E:Value->Shared->Prop}{s:Shared}{it d:Addr}{es:Array DictEntry}{i ep:Nat}
theorem RT{Q:Value->Shared->Prop}(hd:(d==sysModules)=false)(ty:s.TypeIs (.ref d) "dict")(r:Raw s.heap d es ep)
 (h:Q (.ref s.heap.objs.size) { s with heap:=s.heap.push { cls:=.type "dict_keyiterator",data:=.fields #[.ref d,.int 0 0,.int es.size 0,.int ep 0] } }):wpAny (model prog w) A (pyIter (.ref d)) Q E s:=by
 obtain⟨o,r1,r2⟩:=r;have q:Builtin.Dict.showsAll d=pure ():=by unfold Builtin.Dict.showsAll;rw[hd];rfl
 refine wpAny_pyIter_slot ty F.slot_dict_iter (F7 F.slot_dict_iter ty F.entry_dict_iter (A0 (A0 (wpAny_notOrdered_dict ty (A3 (?_:wpAny _ _ (Builtin.Dict.showsAll d >>= _) _ _ s))))) (F.args_dict_iter_1 _));rw[q];refine A0 (A3 (A0 (wpAny_dictEntries r1 r2 (A0 (wpAny_dictEpoch r1 r2 (A0 (C9 (A3 ⟨_,rfl,_,_,⟨_,B0 _ rfl,rfl⟩,F.slot_dict_keyiterator_next.lookup,?_⟩))))))));exact h
theorem DP{Q:Option Value->Shared->Prop}(hh:A.handled=none)(st:s.heap.IsKeyIter it d i es.size ep)(r:Raw s.heap d es ep)
 (h1:∀e,es[i]?=some e->∀h',h'.IsKeyIter it d (i+1) es.size ep->Heap.SameBut it s.heap h'->Q (some e.key) { s with heap:=h' })
 (h2:es[i]?=none->∀h',Heap.ExtBut it s.heap h'->Q none { s with heap:=h' }):wpAny (model prog w) A (pyNext (.ref it)) Q E s:=by
 obtain⟨o,w0,c0,f0⟩:=id st;obtain⟨od,r1,r2⟩:=r;have ty:=st.typeIs;have own:Builtin.Dict_items.ownsTuple "dict_keyiterator"=false:=by decide
 unfold pyNext;refine A0 (wpAny_attempt (J7 ty F.slot_dict_keyiterator_next (F7 F.slot_dict_keyiterator_next ty F.entry_dict_keyiterator_next (A0 (A3 (A0 (A0 ?_)))) (F.args_dict_keyiterator_next_1 _))));refine A0 (Z7 ty (A3 (A0 (wpAny_fieldsOf w0 f0 ?_))));rw[own];refine A0 (A3 (A0 (wpAny_dictEntries r1 r2 ?_)));rw[A5 (by simp)];refine A0 (A3 (A0 (wpAny_dictEpoch r1 r2 ?_)));rw[A5 (by simp)];refine A3 ?_;have pl:(if (i:Int)<0 then none else es[(i:Int).toNat]?)=es[i]?:=by rw[A5 (by omega),U6]
 simp only[pl];cases c:es[i]? with
 |some e=>
  refine A0 (A0 (Z7 ty (A3 (A0 (wpAny_isOneOf_keyiter ty ?_)))));refine A0 (O3 w0 (i:=1) (x:=rawInt ((i:Int)+1)) f0 (by simp) ?_)
  have st1:(s.heap.update it (Obj.mapFields (·.setIfInBounds 1 (rawInt ((i:Int)+1))))).IsKeyIter it d (i+1) es.size ep:=
   ⟨_,E9 _ w0 (Y8 (J5 f0 _)),(Obj.cls_mapFields ..).trans c0,by rw[J5 f0];simp[rawInt]⟩
  refine A0 (D4 (A0 (wpAny_isOneOf_keyiter (s:={ s with heap:=s.heap.update it (Obj.mapFields (·.setIfInBounds 1 (rawInt ((i:Int)+1)))) }) st1.typeIs ?_)));exact A3 (A3 ⟨_,rfl,A3 (h1 e c _ st1 (U5 ..))⟩)
 |none=>
  refine A0 (A0 (Z7 ty (A3 (A0 (O3 w0 (i:=0) (x:=.none) f0 (by simp) (A0 ?_))))));simp only[newExc,newTuple];refine A0 (C9 (A0 (m:=firstArgMember _ _) (wpAny_of_eq (a:=Value.none) (by simp only[firstArgMember];rfl) (C9 ?_ (by size_fits)))) (by size_fits));simp only[raiseNew];refine A0 (wpAny_handled ?_);rw[show A.in1.handled=none from hh];refine A0 (A3 (wpAny_throw ?_));refine A0 (wpAny_isInstance (b:=true) (T:="StopIteration") ⟨_,B0 _ rfl,rfl⟩ isSubtype_stop ?_);exact A3 (h2 c _ (((U5 ..).extBut.push _).push _))
end
end PySem
namespace L2
open PySem PySem.Spec PyProof.Rows
section
variable{K:Fg}
noncomputable def toA:CD->Option (PyData ⊕ Nat)
 |.d x=>some (.inl x)
 |.c i=>some (.inr i)
 |.t _=>none
 |.f _=>none
noncomputable def aEp:List CD->Option (List (PyData ⊕ Nat))
 |[]=>some []
 |x::r=>(toA x).bind fun a=>(aEp r).bind fun q=>some (a::q)
theorem JT{W:Wd}:∀{xs:List CD}{as:List (PyData ⊕ Nat)}{vs:List V},aEp xs=some as->bM K W xs vs->Paired (CI K W) as vs
 |[],_,_=>fun h r=>by cases h;cases r;exact .nil
 |x::xs,as,vs=>fun h r=>by
  obtain⟨a,h1,h⟩:=aG h;obtain⟨q,h2,h⟩:=aG h;cases h;cases r with
  |cons r1 r2=>
   refine .cons ?_ (JT h2 r2);cases x<;>cases h1<;>exact r1
noncomputable def YC(xs:List CD):Option CD:=match hV xs with
 |some ds=>some (.d (.tuple ds))
 |none=>(aEp xs).bind fun as=>some (.t as)
noncomputable def oJ(f:AF):EF:=fun γ M=>(f γ M).bind fun r=>if r.1.length<=sizeLine then(YC r.1).bind fun x=>some (x,r.2)else none
theorem aCB{tA:TA}{fa:AF}(b:SA K tA fa):SE K (NU tA) (oJ fa):=by
 intro γ M x M' hh W H σ Q G R k;obtain⟨⟨ys,M1⟩,h1,hh⟩:=aG hh;have hh:(if ys.length<=sizeLine then(YC ys).bind fun x=>some (x,M1)else none)=some (x,M'):=hh;by_cases hl:ys.length<=sizeLine
 .rw[A4 hl]at hh;obtain⟨z,h2,hh⟩:=aG hh;cases hh;refine b _ _ _ _ h1 W H σ _ G R fun vs W1 H1 e1 G1 r1=>⟨by rw[<- Paired.len r1];exact hl,fun p hp=>?_⟩;obtain⟨e2,G2⟩:=G1.lay (o:=.tup vs) hp;refine k _ _ _ (e1.trans e2) G2 ?_;unfold YC at h2;split at h2
  .rename_i ds hd;cases h2;exact⟨p,vs,rfl,SqT.of aP,aK.same e2.ff _ _ (cX hd r1)⟩
  .obtain⟨as,h3,h2⟩:=aG h2;cases h2;exact⟨p,vs,rfl,aP,Paired.mapP (JT h3 r1) fun _ _ r=>CI.up r e2⟩
 .rw[A5 hl]at hh;cases hh
noncomputable def UC(k:Nat)(γ:Ga)(M:Sto):Option (Ga×Sto):=match γ[k]? with
 |some (some (.c i))=>match M[i]? with
  |some (.lst xs)=>(hV xs).bind fun ds=>some (γ.set k (some (.d (.list ds))),M.set i .dead)
  |_=>none
 |_=>none
noncomputable def XM(k:Nat)(f:SF):SF:=fun γ M=>(f γ M).bind fun r=>match r.1 with
 |.nx γ'=>(UC k γ' r.2).bind fun q=>some (.nx q.1,q.2)
 |o=>some (o,r.2)
theorem tE{α β:Type}{R:α->β->Prop}:∀{xs:List α}{ys:List β}{k:Nat}{x:α}{y:β},Paired R xs ys->ys[k]?=some y->R x y->Paired R (xs.set k x) ys
 |_,_,0,x,y,.cons r t=>fun e h=>by cases e;exact .cons h t
 |_,_,k+1,x,y,.cons r t=>fun e h=>.cons r (tE t (by simpa using e) h)
 |_,_,0,x,y,.nil=>fun e h=>by cases e
 |_,_,k+1,x,y,.nil=>fun e h=>by cases e
theorem aEU{t:TS}{f:SF}{k:Nat}(a:SS K t f):SS K t (XM k f):=by
 intro γ M o M' hh W H σ D G R c;obtain⟨⟨o1,M1⟩,h1,hh⟩:=aG hh;refine a _ _ _ _ h1 W H σ D G R fun W1 H1 e1 G1=>?_;cases o1 with
 |nx γ1=>
  obtain⟨⟨γ2,M2⟩,h2,hh⟩:=aG (show(UC k γ1 M1).bind _=_ from hh);cases hh;unfold UC at h2;split at h2
  .rename_i i hi;split at h2
   .rename_i xs hx;obtain⟨ds,h3,h2⟩:=aG h2;cases h2;intro σ1 R1;obtain⟨W2,e2,G2,_,r2⟩:=G1.freezeL hx h3;obtain⟨y,hy,ry⟩:=Paired.get R1 hi;refine c W2 H1 (e1.trans e2) G2 σ1 ?_;cases y with
    |none=>exact False.elim ry
    |some v=>
     refine tE (R1.up e2) hy ?_;rw[show v=.ref (W1.α i)from ry.2];exact r2
   .cases h2
  .cases h2
 |bk γ1=>cases hh;exact c W1 H1 e1 G1
 |ct γ1=>cases hh;exact c W1 H1 e1 G1
 |rt x=>cases hh;exact c W1 H1 e1 G1
noncomputable def QC:List (PyData ⊕ Nat)->Option (List Key)
 |[]=>some []
 |x::r=>(keyOf (cdA x)).bind fun k=>(QC r).bind fun q=>some (k::q)
noncomputable def kT(f:EF):KF:=fun γ M=>(f γ M).bind fun r=>match r.1 with
 |.t xs=>(QC xs).bind fun ks=>some (.inr ks,r.2)
 |_=>none
theorem DW{W:Wd}:∀{xs:List (PyData ⊕ Nat)}{ks:List Key}{vs:List V},QC xs=some ks->Paired (CI K W) xs vs->vs=ks.map kV
 |[],ks,vs=>fun h r=>by cases h;cases r;rfl
 |x::xs,ks,vs=>fun h r=>by
  obtain⟨k,h1,h⟩:=aG h;obtain⟨ks',h2,h⟩:=aG h;cases h;cases r with
  |@cons _ v _ _ r1 r2=>rw[vI (K:=K) (W:=W) (v:=v) h1 (by cases x<;>exact r1),DW h2 r2];rfl
theorem aIH{t:TE}{f:EF}(a:SE K t f):SK K t (kT f):=by
 intro γ M k M' hh W H σ Q G R c;obtain⟨⟨x,M1⟩,h1,hh⟩:=aG hh;cases x with
 |d x=>cases hh
 |c x=>cases hh
 |f x=>cases hh
 |t xs=>
  obtain⟨ks,h2,hh⟩:=aG (show(QC xs).bind _=_ from hh);cases hh;refine a _ _ _ _ h1 W H σ _ G R fun v W1 H1 e1 G1 r1=>?_;obtain⟨p,vs,rfl,h3,h4⟩:=r1;exact c _ W1 H1 e1 G1 ⟨p,rfl,by rw[h3,DW h2 h4]⟩
noncomputable def Itk(a:Addr)(o:Obj)(kvs:List (List Key×V)):It:=
 ⟨fun i H=>H a=some (.frz o (.dT kvs))/\i<kvs.length,fun i H x H'=>H'=H/\∃kv b,kvs[i]?=some kv/\x=.ref b/\H b=some (.tup (kv.1.map kV)),fun i H=>H a=some (.frz o (.dT kvs))/\kvs.length<=i⟩
noncomputable def aDr(td:TE):TI:=fun σ H R=>td σ H fun x H1=>∃a o kvs,x=.ref a/\H1 a=some (.frz o (.dT kvs))/\R (Itk a o kvs) H1
theorem QE{X:Cx}{pins:List (Addr×Obj)}{σ:St}{H:Hp}{s:Shared}{a:Addr}{o:Obj}{kvs:List (List Key×V)}{es:Array DictEntry}{ep:Nat}(I:Inv X pins σ H s)(e:H a=some (.frz o (.dT kvs)))(hd:o.data=.dict es ep):
 Raw s.heap a es ep/\es.size=kvs.length/\∀(i:Nat) en,es[i]?=some en->∃kv b,kvs[i]?=some kv/\en.key=.ref b/\H b=some (.tup (kv.1.map kV)):=by
 obtain⟨h0,z,hs,xs,r,od,es',ep',h1,h2,h3,h4,h5⟩:=(show cK X.prog X.w H s.heap a (.frz o (.dT kvs))from I.hok a _ e);rw[h0]at h1;cases h1;rw[hd]at h3;cases h3;have hl:es.toList.length=kvs.length:=by rw[h4,A9];exact(Paired.len r).symm
 refine⟨⟨o,h0,hd⟩,by rw[<- S5];exact hl,fun i en he=>?_⟩;rw[<- U9,h4,D6]at he;cases c:xs[i]? with
 |none=>rw[c]at he;cases he
 |some x=>
  rw[c]at he;cases he;have hi:i<kvs.length:=by rw[Paired.len r];exact(List.getElem?_eq_some_iff.mp c).1
  obtain⟨y,hy,q1,q2,q3⟩:=Paired.get r (B1 hi);rw[c]at hy;cases hy;exact⟨_,_,B1 hi,rfl,q2⟩
theorem TU{P:Program}{w:World}{tg:Expr}(a it:Addr)(o:Obj)(kvs:List (List Key×V))(es:Array DictEntry)(ep:Nat)(hd:o.data=.dict es ep):Turn P w K tg (Itk a o kvs) [it] it (fun i h=>h.IsKeyIter it a i es.size ep) where
 mem:=by simp
 obj:=fun i h st b hb=>by
  have e:b=it:=by simpa using hb
  subst e;obtain⟨o,e,c,d⟩:=st;exact⟨o,e,fun v z=>by rw[d]at z;cases z⟩
 keep:=fun i h h' st k=>st.at fun o e=>k it (by simp) o e
 item:=by
  intro X hP hw hK hc i pins s σ H E I hf st hg;subst hP hw hK;obtain⟨f0,f1,f2,f3,f4,f5⟩:=hf it (by simp);obtain⟨raw,hl,hk⟩:=QE I hg.1 hd;refine DP (I.ok.hd hc) st raw (fun en he h' st' sb=>?_) fun he=>?_
  .have I1:Inv X pins σ H { s with heap:=h' }:=I.turned (t':=s.toks) (fun b o hb e=>(sb.2 b hb).trans e) f0 f1 f3 f4 f5;obtain⟨kv,b,q1,q2,q3⟩:=hk i en he;obtain⟨o,e,c,d⟩:=id st';rw[q2];exact⟨_,rfl,OT (s:={ s with heap:=h' }) e c d (by decide) ⟨.ref b,H,I1,rfl,⟨rfl,kv,b,q1,rfl,q3⟩,st',fun b hb=>(hf b hb).1⟩⟩
  .have:=Array.getElem?_eq_none_iff.mp he;have:=hg.2;omega
 done:=by
  intro X hP hw hK hc i pins s σ H E I hf st hg;subst hP hw hK;obtain⟨f0,f1,f2,f3,f4,f5⟩:=hf it (by simp);obtain⟨raw,hl,hk⟩:=QE I hg.1 hd;refine DP (I.ok.hd hc) st raw (fun en he=>?_) fun he h' eb=>⟨rfl,I.turned (t':=s.toks) (fun b o hb e=>eb b o hb e) f0 f1 f3 f4 f5⟩;have:=(Array.getElem?_eq_some_iff.mp he).1;have:=hg.2;omega
 self:=fun _ _ _ _ _ st h=>wpAny_pyIter_keyiter st h
theorem aCV{X:Cx}{tg l:Expr}{tl:TE}(hl:PE X l tl):PI X tg l (aDr tl):=by
 intro pins s σ H R I h;refine thn (hl pins s σ H _ I h) fun v s1 hz=>?_;obtain⟨x,H1,I1,r1,a,o,kvs,e,ha,q⟩:=hz;subst e;cases r1;obtain⟨h0,z,hs,xs,r,od,es,ep,h1,h2,h3,h4,h5⟩:=(show cK X.prog X.w H1 s1.heap a (.frz o (.dT kvs))from I1.hok a _ ha);rw[h0]at h1;cases h1;refine RT hs ⟨o,h0,h2.1⟩ ⟨o,h0,h3⟩ ?_
 have fp:∀b∈[s1.heap.objs.size],mT X pins H1 b:=fun b hb=>by
  have e:b=s1.heap.objs.size:=List.mem_singleton.mp hb;subst e;exact I1.fpOk (A7 _) (I1.hok.fresh (A7 _))
 exact⟨s1.heap.objs.size,[s1.heap.objs.size],_,_,_,rfl,I1.kept (t':=s1.toks) fun b o e=>A2 _ e,TU a _ o kvs es ep h3,⟨_,B0 _ rfl,rfl,rfl⟩,fp,q⟩
noncomputable def sT(ks:List Key):CD:=.t (ks.map fun k=>.inl (LQ k))
noncomputable def JE(f:EF):AF:=fun γ M=>(f γ M).bind fun r=>match r.1 with
 |.f kvs=>some (kvs.map fun kv=>sT kv.1,r.2)
 |_=>none
theorem KW{W:Wd}:∀ks:List Key,Paired (CI K W) (ks.map fun k=>.inl (LQ k)) (ks.map kV)
 |[]=>.nil
 |k::ks=>.cons (by cases k<;>rfl) (KW ks)
theorem aBq{td:TE}{f:EF}(a:SE K td f):SI K (aDr td) (JE f):=by
 intro γ M xs M' hh W H σ R G Rs k;obtain⟨⟨y,M1⟩,h1,hh⟩:=aG hh;revert hh;dsimp only;split
 .rename_i kvs;intro hh;cases hh;refine a _ _ _ _ h1 W H σ _ G Rs fun v W1 H1 e1 G1 r1=>?_;obtain⟨p,o,us,rfl,hF,hp⟩:=r1;refine⟨p,o,us,rfl,G1.fh _ _ hF,k _ W1 H1 e1 G1 fun W2 M2 H2 e2 G2=>?_⟩;have hH:=G2.fh _ _ (e2.ff _ _ hF);refine⟨fun i x hx=>⟨⟨hH,?_⟩,fun y H3 hy=>?_⟩,hH,by rw[A9,Paired.len hp];exact A7 _⟩
  .have:=(List.getElem?_eq_some_iff.mp hx).1;rw[A9,Paired.len hp]at this;exact this
  .obtain⟨rfl,kv,b,q1,rfl,q3⟩:=hy;obtain⟨e3,G3⟩:=G2.adopt q3;refine⟨_,e3,G3,?_⟩;rw[D6]at hx;cases c:kvs[i]? with
   |none=>rw[c]at hx;cases hx
   |some kw=>
    rw[c]at hx;cases hx;obtain⟨q,hq,e,_⟩:=Paired.get hp c;rw[q1]at hq;cases hq;exact⟨b,_,rfl,aP,e▸KW _⟩
 .intro hh;cases hh
noncomputable def aDM(t:TS):TS:=fun D σ H=>t { D with nx:=fun σ1 H1=>∃a kvs,H1 a=some (.dT kvs)/\∀o,D.nx σ1 (upd H1 a (.frz o (.dT kvs))) } σ H
theorem aBl{X:Cx}{st:Stmt}{t:TS}(h:PS X st t):PS X st (aDM t):=by
 intro pins s σ H D I q;refine thn (h pins s σ H _ I q) fun f s1 z=>?_;cases f with
 |next=>
  obtain⟨σ1,H1,I1,a,kvs,ha,q⟩:=z;obtain⟨z,hs,xs,r,od,es,ep,h1,h2,h3,h4,h5⟩:=(show cK X.prog X.w H1 s1.heap a (.dT kvs)from I1.hok a _ ha)
  have up:∀b xs,H1 b=some (.tup xs)->upd H1 a (.frz od (.dT kvs)) b=some (.tup xs):=fun b xs e=>by
   rw[aJ (fun z=>by rw[z,ha]at e;cases e)];exact e
  exact⟨σ1,_,rH (ob:=.frz od (.dT kvs)) (t':=s1.toks) I1 (by rw[ha];exact True.intro) (Heap.SameBut.refl _ _) ⟨od,h1⟩ ⟨h1,z,hs,xs,KT.keeps r up,od,es,ep,h1,h2,h3,h4,h5⟩,q od⟩
 |brk=>exact z
 |cont=>exact z
 |ret v=>exact z
noncomputable def DV(k:Nat)(γ:Ga)(M:Sto):Option (Ga×Sto):=match γ[k]? with
 |some (some (.c i))=>match M[i]? with
  |some (.dt kvs)=>(yC kvs).bind fun ds=>some (γ.set k (some (.f ds)),M.set i .dead)
  |_=>none
 |_=>none
noncomputable def HX(k:Nat)(f:SF):SF:=fun γ M=>(f γ M).bind fun r=>match r.1 with
 |.nx γ'=>(DV k γ' r.2).bind fun q=>some (.nx q.1,q.2)
 |o=>some (o,r.2)
theorem aBe{t:TS}{f:SF}{k:Nat}(a:SS K t f):SS K (aDM t) (HX k f):=by
 intro γ M o M' hh W H σ D G R c;obtain⟨⟨o1,M1⟩,h1,hh⟩:=aG hh;refine a _ _ _ _ h1 W H σ _ G R fun W1 H1 e1 G1=>?_;cases o1 with
 |nx γ1=>
  obtain⟨⟨γ2,M2⟩,h2,hh⟩:=aG (show(DV k γ1 M1).bind _=_ from hh);cases hh;unfold DV at h2;split at h2
  .rename_i i hi;split at h2
   .rename_i kvs hx;obtain⟨ds,h3,h2⟩:=aG h2;cases h2;intro σ1 R1;obtain⟨us,hu,pu⟩:=G1.dtAt hx;refine⟨_,us,hu,fun o=>?_⟩;obtain⟨e2,G2⟩:=G1.freeze hx (by intro z;cases z) (o':=.frz o (.dT us));obtain⟨y,hy,ry⟩:=Paired.get R1 hi;refine c _ _ (e1.trans e2) G2 σ1 ?_;cases y with
    |none=>exact False.elim ry
    |some v=>
     refine tE (R1.up e2) hy ?_;exact⟨W1.α i,o,us,ry.2,aP,Paired.mapP (vB h3 pu) fun _ _ r=>⟨r.1,Rep.same e2.ff _ _ r.2⟩⟩
   .cases h2
  .cases h2
 |bk γ1=>cases hh;exact c W1 H1 e1 G1
 |ct γ1=>cases hh;exact c W1 H1 e1 G1
 |rt x=>cases hh;exact c W1 H1 e1 G1
theorem QW{X:Cx}{C f:Addr}{k:Nat}{x:Str}{fd:FuncData}{ps:List Str}{sp:Sp}{p pos:Pos}{e:Expr}{es:List Expr}{t:TA}(M:Mk X.K C f)(F:gP X.prog X.w X.K X.mg X.base (CX1 X.prog X.w) k f fd ps sp)(hr:bS (k+1) X.A)
 (hg:Gl X x) (hm:X.mg x=some (.ref C)) (hb:Binds X.K fd ps []) (ha:PA X (e::es) t) (hdb:(x==("__debug__":Str))=false) (he:starEach (e::es) X.env=(false,eval e X.env)::starEach es X.env) (hpl:(backTo pos (starEach es X.env)).any (·.1)=false):
 PE X (.Call (.Name x p) (e::es) [] pos) (yY C sp noX t):=by
 intro pins s σ H Q I h;refine J4 (lA I hg hm ?_ hdb);refine O0 (h₀:=X.base) I.ok.mod.kin M.kp (thn (ha pos pins s σ H _ I h) fun us s1 ⟨vs,H1,I1,r,q⟩=>⟨I1.kIn,?_⟩) he hpl;exact IR M F hr hb .nil (fun _ _ _ _ _ z=>by obtain⟨_,_,_,_,_,_,_,_,_,_,_,_,_,z⟩:=z;exact z.elim) I1 r q
noncomputable def AH(nm:Str)(h:FX)(fa:AF):EF:=fun γ M=>(fa γ M).bind fun r=>(h (.c r.2.length::r.1) (r.2++[.obj nm []])).bind fun q=>match q.1 with
 |.x _=>none
 |.v y=>if sF y=true then some (.c r.2.length,q.2)else none
theorem XF{nm:Str}{h:FX}{tA:TA}{fa:AF}(b:SA K tA fa):SE K (yY (aR K nm) (spX K h) noX tA) (AH nm h fa):=by
 intro γ M x M' hh W H σ Q G R k;obtain⟨⟨ys,M1⟩,h1,hh⟩:=aG hh;obtain⟨⟨z,M2⟩,h2,hh⟩:=aG hh;refine b _ _ _ _ h1 W H σ _ G R fun vs W1 H1 e1 G1 r1=>?_;intro p dx hp hdx hne;rw[C6];have Ga:=G1.extra (o:=.own p) hdx;have hp':(upd H1 dx (.own p)) p=none:=by rw[aJ (F0 hne)];exact hp
 have Gb:=Ga.new hp' (c:=.obj nm []) (o:=.ins (aR K nm) dx []) ⟨rfl,.nil⟩;have e2:=W1.ext_more p;refine⟨.c M1.length::ys,M1++[.obj nm []],W1.more p,z,M2,Gb,.cons G1.newV (bM.up r1 e2),h2,fun W3 H3 e3 G3=>?_⟩;cases z with
 |x e=>cases hh
 |v y=>
  have hh:(if sF y=true then some (CD.c M1.length,M2)else none)=some (x,M'):=hh;by_cases hy:sF y=true
  .rw[A4 hy]at hh;cases hh;have:=zV hy;subst this;exact fun v rv=>⟨rv,k _ W3 H3 ((e1.trans e2).trans e3) G3 (G1.newV.up e3)⟩
  .rw[A5 hy]at hh;cases hh
open Classical in
noncomputable def oA(P:Sto->Prop)(g:GsF)(b:SFX):Nat->List CD->Ga->Sto->Option (RA×Sto)
 |_,[],γ,M=>if P M then some (.o (.nx γ),M)else none
 |n,x::xs,γ,M=>if P M then(g [.d (.int n),x] γ M).bind fun r=>(b r.1 r.2).bind fun q=>match q.1 with
  |.o (.nx γ')=>oA P g b (n+1) xs γ' q.2
  |.o (.ct γ')=>oA P g b (n+1) xs γ' q.2
  |.o (.bk γ')=>some (.o (.nx γ'),q.2)
  |.o (.rt x)=>some (.o (.rt x),q.2)
  |.xc γ' e=>some (.xc γ' e,q.2)else none
noncomputable def ES(f:AF)(g:GsF)(b:SFX):SFX:=fun γ M=>(f γ M).bind fun r=>match r.1 with
 |[x]=>(walked r.2 x).bind fun p=>oA p.2 g b 0 p.1 γ r.2
 |_=>none
theorem UD{EE:St->XK}{tA:TA}{fa:AF}{ts:TGs}{gs:GsF}{t:TS}{p:SFX}(i:SA K tA fa)(a:SGs K ts gs)(b:SSX K EE t p):SSX K EE (aGS (aDp K tA) (UW K 2 ts) t) (ES fa gs p):=by
 intro γ M o M' hh W H σ D G R k;obtain⟨⟨ys,M1⟩,h1,hh⟩:=aG hh;refine i _ _ _ _ h1 W H σ _ G R fun vs W1 H1 e1 G1 r1=>?_;revert hh;dsimp only;split
 .rename_i y;intro hh;obtain⟨⟨xs,P⟩,h2,hh⟩:=aG hh;have hh:oA P gs p 0 xs γ M1=some (o,M'):=hh;cases r1 with
  |cons r r'=>
   cases r';obtain⟨l,rfl,hw⟩:=LJ h2 G1 r
   have main:∀Sq:Hp->List V->Prop,(∀W' M' H',W1.Ext W'->Good K W' M' H'->P M'->∃vs,Sq H' vs/\bM K W' xs vs)->
    ∃W:Nat->Nat->St->Hp->Prop,(∃m,W 0 m σ H1)/\∀i m σ H,W i m σ H->((Ite Sq).stop i H/\D.nx σ H)\/((Ite Sq).go i H/\∃N:St->Hp->Prop,(∀σ' H',N σ' H'->∃m',m'<m/\W (i+1) m' σ' H')/\∀x H',(Ite Sq).yld i H x H'->UW K 2 ts x σ H' fun σ2 H2=>t { D with nx:=N,ct:=N,bk:=D.nx } σ2 H2):=by
    intro Sq hw;refine⟨fun j m σ' H'=>∃γ' M2 W2,j<=xs.length/\m=xs.length-j/\W1.Ext W2/\Good K W2 M2 H'/\cF K W2 γ' σ'/\oA P gs p j (xs.drop j) γ' M2=some (o,M'),⟨_,γ,M1,W1,E3 _,rfl,.refl _,G1,R.up e1,hh⟩,?_⟩;rintro j m σ' H' ⟨γ',M2,W2,hj,rfl,e2,G2,R2,h2⟩
    have hP:P M2:=by
     by_cases hP:P M2
     .exact hP
     .cases hd:xs.drop j<;>rw[hd]at h2<;>unfold oA at h2<;>rw[A5 hP]at h2<;>cases h2
    obtain⟨us,hu,hr⟩:=hw W2 M2 H' e2 G2 hP;by_cases hlt:j<xs.length
    .obtain⟨u,hu',ru⟩:=Paired.get hr (B1 hlt);rw[J1 hlt]at h2;unfold oA at h2;rw[A4 hP]at h2;refine .inr ⟨⟨us,u,hu,hu'⟩,fun σ3 H3=>∃γ3 M3 W3,W2.Ext W3/\Good K W3 M3 H3/\cF K W3 γ3 σ3/\oA P gs p (j+1) (xs.drop (j+1)) γ3 M3=some (o,M'),?_,fun y H3 hy=>?_⟩
     .rintro σ3 H3 ⟨γ3,M3,W3,e3,G3,R3,h3⟩;exact⟨_,by omega,γ3,M3,W3,hlt,rfl,e2.trans e3,G3,R3,h3⟩
     .obtain⟨q,x',hn,rfl,rfl,hx'⟩:=hy;have:=hx' us hu;rw[hu']at this;cases this;have G3:=G2.extra (o:=.tup [.int j,u]) hn;obtain⟨⟨γ4,M4⟩,h4,h2⟩:=aG h2;obtain⟨⟨o5,M5⟩,h5,h2⟩:=aG h2;refine⟨q,_,rfl,SqT.of aP,rfl,a _ _ _ _ _ h4 W2 _ σ' _ _ G3 R2 (.cons (show bP K W2 (.d (.int j)) (.int j)from rfl) (.cons ru .nil)) fun σ4 W4 H4 e4 G4 R4=>?_⟩;refine b _ _ _ _ h5 W4 H4 σ4 _ G4 R4 fun W5 H5 e5 G5=>?_;have e25:=e4.trans e5;cases o5 with
      |xc γ5 e=>cases h2;exact k W5 H5 ((e1.trans e2).trans e25) G5
      |o o5=>
       cases o5 with
       |nx γ5=>exact fun σ5 R5=>⟨γ5,M5,W5,e25,G5,R5,h2⟩
       |ct γ5=>exact fun σ5 R5=>⟨γ5,M5,W5,e25,G5,R5,h2⟩
       |bk γ5=>cases h2;exact k W5 H5 ((e1.trans e2).trans e25) G5
       |rt x=>cases h2;exact k W5 H5 ((e1.trans e2).trans e25) G5
    .have e:j=xs.length:=by omega
     subst e;rw[S2]at h2;unfold oA at h2;rw[A4 hP]at h2;cases h2;exact .inl ⟨⟨us,hu,(Paired.len hr).symm⟩,k W2 H' (e1.trans e2) G2 σ' R2⟩
   refine⟨l,rfl,?_⟩;rcases hw with⟨⟨vs,hv⟩,hw⟩|⟨⟨vs,hv⟩,hw⟩
   .exact .inl ⟨vs,hv,main _ hw⟩
   .exact .inr ⟨vs,hv,main _ hw⟩
 .intro hh;cases hh
end
section
variable{ι:Type}{K:Fg}{X:ι->Cx}{e a:Expr}{es:List Expr}{f:EF}{fa:AF}{sf:SF}{st:Stmt}{pos:Pos}
theorem aBL{k:Nat}(x:MA K X es fa):ME K X (.Tuple es k pos) (oJ fa):=by
 obtain⟨t,x1,x2⟩:=x.ex;exact⟨_,fun i=>sR (x1 i),aCB x2⟩
theorem aGI(k:Nat)(x:MS K X st sf):MS K X st (XM k sf):=by
 obtain⟨t,x1,x2⟩:=x.ex;exact⟨_,x1,aEU x2⟩
theorem aCX(k:Nat)(x:MS K X st sf):MS K X st (HX k sf):=by
 obtain⟨t,x1,x2⟩:=x.ex;exact⟨_,fun i=>aBl (x1 i),aBe x2⟩
theorem aIK(x:ME K X e f):MK K X e (kT f):=by
 obtain⟨t,x1,x2⟩:=x.ex;exact⟨_,x1,aIH x2⟩
theorem aCT{tg:Expr}(x:ME K X a f):MI K X tg a (JE f):=by
 obtain⟨t,x1,x2⟩:=x.ex;exact⟨_,fun i=>aCV (x1 i),aBq x2⟩
theorem UU{k:Nat}{nm:Str}{ps:List Str}{F:FX}{p:Pos}(C:∀i,uB (X i).prog (X i).w (X i).K (X i).mg (X i).base k nm ps (spX K F))(hK:∀i,(X i).K=K)(hr:∀i,bS (k+1) (X i).A)(y:MA K X (e::es) fa)(hg:∀i,Gl (X i) nm:=by intro _;rfl)(hd:(nm==("__debug__":Str))=false:=by decide):
 ME K X (.Call (.Name nm p) (e::es) [] pos) (AH nm F fa):=by
 obtain⟨u,y1,y2⟩:=y.ex;refine⟨_,fun i=>?_,XF y2⟩;obtain⟨f,fd,F',M,B,m⟩:=(C i).ex;have:=QW M F' (hr i) (hg i) m B (y1 i) hd (y.st.1 _) (y.st.2.plain _ _) (p:=p) (pos:=pos);rw[hK i]at this;exact this
theorem XD{EE:ι->St->XK}{sts:List Stmt}{gs:GsF}{p:SFX}{k:Nat}{tpos q cpos:Pos}(ok:∀i,XOk (X i) (EE i))(hc:∀i,(X i).calm=true)(hK:∀i,(X i).K=K)(hm:∀i,(X i).mg "enumerate"=none)(x:MA K X [a] fa)(y:MGs K X es gs)(z:MLX K X EE sts p)(hg:∀i,Gl (X i) "enumerate":=by intro _;rfl)
 (hn:∀env:Env,(assignEach es env).length=2:=by intro _;rfl) (hst:∀env:Env,(assignEach es env).findIdx? (·.1)=none:=by intro _;rfl) (hs:∀(env:Env)(x:Value),foldedSetIterable (.Call (.Name "enumerate" q) [a] [] cpos) env x=pure x:=by intro _ _;rfl):MSX K X EE (.For (.Tuple es k tpos) (.Call (.Name "enumerate" q) [a] [] cpos) sts [] pos) (ES fa gs p):=by
 obtain⟨t,x1,x2⟩:=x.ex;obtain⟨u,y1,y2⟩:=y.ex;obtain⟨v,z1,z2⟩:=z.ex;exact⟨_,fun i=>WA (ok i).own (hc i) (by have:=aBp (elts:=es) (x1:=k) (tpos:=tpos) (p:=q) (pos:=cpos) (hg i) (hm i) (x1 i) (x.st.1 _);rw[hK i]at this;exact this) (PF (hK i) (hc i) (y1 i) (hn _) (hst _)) (z1 i) (hs _),fun i=>UD x2 y2 (z2 i)⟩
end
end L2
section
noncomputable section
namespace Q6
open PySem PySem.Spec PyProof.Rows L2
noncomputable def top(i:Nat):Stmt:=PySem.Challenge.pw_cutstree_k06_changed.main.body.getD i (.Pass ⟨0,0,0,0⟩)
noncomputable def kB:List (Str×Bool):=[("NoPlace",true),("NoTie",false),("NoWeight",false)]
noncomputable def cV:List (Str×Bool):=[("NoPlace",true),("NoTie",true),("NoWeight",true)]
noncomputable def dR:List (Str×Bool):=[("NoPlace",true),("NoTie",true),("NoWeight",true)]
noncomputable def gO:List (Str×Bool):=[("NoPlace",false),("NoTie",false),("NoWeight",false)]
noncomputable def fF:List (Str×Bool):=[("NoPlace",false),("NoTie",false),("NoWeight",false)]
noncomputable def iU:List (Str×Bool):=[("NoPlace",false),("NoTie",true),("NoWeight",false)]
noncomputable def iS:List (Str×Bool):=[("NoPlace",false),("NoTie",false),("NoWeight",true)]
theorem ar1{α:Type}{P:List α->Prop}{us:List α}(hl:us.length=1)(h:∀a0,P [a0]):P us:=by
 rcases us with _|⟨a0,_|⟨c,r⟩⟩<;>first|exact h _|cases hl
theorem ar2{α:Type}{P:List α->Prop}{us:List α}(hl:us.length=2)(h:∀a0 a1,P [a0,a1]):P us:=by
 rcases us with _|⟨a0,_|⟨a1,_|⟨c,r⟩⟩⟩<;>first|exact h _ _|cases hl
theorem ar3{α:Type}{P:List α->Prop}{us:List α}(hl:us.length=3)(h:∀a0 a1 a2,P [a0,a1,a2]):P us:=by
 rcases us with _|⟨a0,_|⟨a1,_|⟨a2,_|⟨c,r⟩⟩⟩⟩<;>first|exact h _ _ _|cases hl
theorem ar4{α:Type}{P:List α->Prop}{us:List α}(hl:us.length=4)(h:∀a0 a1 a2 a3,P [a0,a1,a2,a3]):P us:=by
 rcases us with _|⟨a0,_|⟨a1,_|⟨a2,_|⟨a3,_|⟨c,r⟩⟩⟩⟩⟩<;>first|exact h _ _ _ _|cases hl
theorem ar5{α:Type}{P:List α->Prop}{us:List α}(hl:us.length=5)(h:∀a0 a1 a2 a3 a4,P [a0,a1,a2,a3,a4]):P us:=by
 rcases us with _|⟨a0,_|⟨a1,_|⟨a2,_|⟨a3,_|⟨a4,_|⟨c,r⟩⟩⟩⟩⟩⟩<;>first|exact h _ _ _ _ _|cases hl
set_option hygiene false
local macro_rules | `(tactic| sleep 990) => `(tactic| exact ⟨rfl, rfl, rfl, by decide +kernel, rfl, by decide +kernel, by decide +kernel⟩)
local macro_rules | `(tactic| sleep 991) => `(tactic| (intro _ _ _ _ _ _ _ hl; apply ar1 hl; intros; rfl))
local macro_rules | `(tactic| sleep 992) => `(tactic| (intro _ _ _ _ _ _ _ hl; apply ar2 hl; intros; rfl))
local macro_rules | `(tactic| sleep 993) => `(tactic| (intro _ _ _ _ _ _ _ hl; apply ar3 hl; intros; rfl))
local macro_rules | `(tactic| sleep 994) => `(tactic| (intro _ _ _ _ _ _ _ hl; apply ar4 hl; intros; rfl))
local macro_rules | `(tactic| sleep 995) => `(tactic| (intro _ _ _ _ _ _ _ hl; apply ar5 hl; intros; rfl))
set_option hygiene true
noncomputable abbrev jR:Stmt:=top 31
noncomputable abbrev sC:List Str:=["_law_script","_law_k","_law_cell","_law_mixed"]
noncomputable abbrev lX:List Str:=["_law_script","_law_k"]
theorem sc__law_stream:aS sC lX (aH jR):=by sleep 990
noncomputable def fV:SF:=(bK (sIf (gB (fOp ltI (aD 1) (aM mB (aB (aD 0) aI))))
 (bK (cN (fOp ixF (aD 0) (aD 1)) (hName 2))
 (bK (cN (fOp dW (fOp dW (fOp oQ (aD 2) (fC (.int 2147483629))) (fOp ID (aD 1) (aD 1))) (fC (.int 1))) (hName 3))
 (bK (sIf (gB (fOp ltI (aD 2) (fOp vC (fC (.int 10)) (fC (.int 18)))))
  (cN (fC (.int 0)) (hName 2))
  cZ)
 (cG (uE (aB (aD 2) (aB (aD 3) aI)))))))
  cZ)
 (cG (uE (aB (fC (.int 0)) (aB (fOp dW (fOp ID (aD 1) (aD 1)) (fC (.int 11))) aI)))))
noncomputable def eJ:FN:=fnF 2 4 fV
noncomputable abbrev nE:Stmt:=top 32
noncomputable abbrev wH:List Str:=["_law_stream_here","_law_most","_law_digit"]
noncomputable abbrev oZ:List Str:=["_law_stream_here","_law_most"]
theorem sc__law_take:aS wH oZ (aH nE):=by sleep 990
noncomputable def kU:SF:=(bK (sIf (gB (fOp (eqX false) (fOp ixF (aD 0) (fC (.int 0))) (fC (.int 0))))
 (bK (cN (fOp oQ (fOp dW (fOp ID (fOp ixF (aD 0) (fC (.int 1))) (fC (.int 48271))) (fC (.int 12345))) (fC (.int 2147483647))) (hSub (aD 0) (fC (.int 1)) BF))
 (cG (fOp oQ (fOp oQ (fOp ID (fOp ixF (aD 0) (fC (.int 1))) (fOp ixF (aD 0) (fC (.int 1)))) (fC (.int 2147483629))) (aD 1))))
  cZ)
 (bK (cN (fOp oQ (fOp ixF (aD 0) (fC (.int 0))) (aD 1)) (hName 2))
 (bK (cN (fOp EM (fOp ixF (aD 0) (fC (.int 0))) (aD 1)) (hSub (aD 0) (fC (.int 0)) BF))
 (cG (aD 2)))))
noncomputable def aU:FN:=fnF 2 3 kU
noncomputable abbrev nT:Stmt:=top 33
noncomputable abbrev wG:List Str:=["_law_stream_here","_law_some"]
noncomputable abbrev pR:List Str:=["_law_stream_here","_law_some"]
theorem GS:aS wG pR (aH nT):=by sleep 990
noncomputable def pE:SF:=(cG (fOp ixF (aD 1) (aM aU (aB (aD 0) (aB (aM mB (aB (aD 1) aI)) aI)))))
noncomputable def dD:FN:=fnF 2 2 pE
noncomputable abbrev mE:Stmt:=top 34
noncomputable abbrev tO:List Str:=["_law_above","_law_below","_law_one","_law_other"]
noncomputable abbrev nO:List Str:=["_law_above","_law_below"]
theorem sc__law_least:aS tO nO (aH mE):=by sleep 990
noncomputable def pQ:SF:=(sY (gB (fOp gtI (aD 3) (fC (.int 0)))) (HS 2 3 (aB (aD 3) (aB (fOp oQ (aD 2) (aD 3)) aI))))
noncomputable def mW:SF:=(bK (cN (aD 0) (hName 2))
 (bK (cN (aD 1) (hName 3))
 (bK pQ
 (cG (bR (aB (fOp EM (aD 0) (aD 2)) (aB (fOp EM (aD 1) (aD 2)) aI)))))))
noncomputable def gS:FN:=fnF 2 4 mW
noncomputable abbrev jK:Stmt:=top 35
noncomputable abbrev rS:List Str:=["_law_stream_here","_law_kind","_law_below","_law_above"]
noncomputable abbrev lP:List Str:=["_law_stream_here"]
theorem sc__law_weight:aS rS lP (aH jK):=by sleep 990
noncomputable def nZ:EF:=(nH (aB (bR (aB (fC (.int 1)) (aB (fC (.int 1)) aI))) (aB (bR (aB (fC (.int 1)) (aB (fC (.int 1)) aI))) (aB (bR (aB (fC (.int 2)) (aB (fC (.int 1)) aI))) (aB (bR (aB (fC (.int 1)) (aB (fC (.int 2)) aI))) (aB (bR (aB (fC (.int 3)) (aB (fC (.int 4)) aI))) (aB (bR (aB (fC (.int 0)) (aB (fC (.int 1)) aI))) aI)))))))
noncomputable def oB:EF:=(nH (aB (fC (.int 1)) (aB (fC (.int 2)) (aB (fC (.int 3)) (aB (fC (.int 5)) (aB (fC (.int 7)) (aB (fC (.int 8)) (aB (fC (.int 9)) (aB (fC (.int 11)) (aB (fC (.int 12)) (aB (fC (.int 16)) (aB (fC (.int 35)) (aB (fC (.int 99)) (aB (fC (.int 720)) (aB (fC (.int 5040)) (aB (fC (.int 27720)) (aB (fC (.int 55440)) aI)))))))))))))))))
noncomputable def fW:SF:=(bK (cN (aM aU (aB (aD 0) (aB (fC (.int 8)) aI))) (hName 1))
 (bK (sIf (gB (fOp ltI (aD 1) (fC (.int 6))))
  (cG (fOp ixF nZ (aD 1)))
  cZ)
 (bK (cN (aM dD (aB (aD 0) (aB oB aI))) (hName 2))
 (bK (cN (aM aU (aB (aD 0) (aB (fC (.int 1000)) aI))) (hName 3))
 (bK (sIf (gB (fOp (eqX false) (aD 1) (fC (.int 7))))
  (cN (fOp ixF (nH (aB (fOp vC (fC (.int 10)) (fC (.int 12))) (aB (fOp vJ (fOp vC (fC (.int 10)) (fC (.int 12))) (fC (.int 1))) (aB (fC (.int 1)) (aB (fOp dW (fOp vC (fC (.int 10)) (fC (.int 9))) (aM aU (aB (aD 0) (aB (fC (.int 1000)) aI)))) aI))))) (aM aU (aB (aD 0) (aB (fC (.int 4)) aI)))) (hName 3))
  cZ)
 (cG (aM gS (aB (aD 3) (aB (aD 2) aI)))))))))
noncomputable def bQ:FN:=fnF 1 4 fW
noncomputable abbrev nK:Stmt:=top 42
noncomputable abbrev wF:List Str:=["_law_stream_here","_law_many","_law_share","_law_found","_law_j","_law_i","_law_at"]
noncomputable abbrev pA:List Str:=["_law_stream_here","_law_many"]
theorem sc__law_ties:aS wF pA (aH nK):=by sleep 990
noncomputable def eF:SF:=(sIf (gB (fOp ltI (aM aU (aB (aD 0) (aB (fC (.int 4)) aI))) (aD 2)))
 (bK (cN (aM aU (aB (aD 0) (aB (fOp dW (aM mB (aB (aD 3) aI)) (fC (.int 1))) aI))) (hName 6))
 (cN (fOp dW (fOp dW (fSl (aD 3) eO (lB (aD 6))) (nH (aB (bR (aB (aD 5) (aB (aD 4) (aB (aM bQ (aB (aD 0) aI)) aI)))) aI))) (fSl (aD 3) (lB (aD 6)) eO)) (hName 3)))
  cZ)
noncomputable def eG:SF:=(xK (kY (aB (aD 4) aI)) (hName 5) eF)
noncomputable def pL:SF:=(bK (cN (aM aU (aB (aD 0) (aB (fC (.int 4)) aI))) (hName 2))
 (bK (cN (nH aI) (hName 3))
 (bK (xK (kY (aB (aD 1) aI)) (hName 4) eG)
 (cG (aD 3)))))
noncomputable def kS:FN:=fnF 2 7 pL
noncomputable abbrev qQ:Stmt:=top 8
noncomputable abbrev AL:List Str:=["thing"]
noncomputable abbrev tG:List Str:=["thing"]
theorem JC:aS AL tG (aH qQ):=by sleep 990
noncomputable def sU:SF:=(cG (jV (KG "int" (aD 0)) (RS (KG "bool" (aD 0)))))
noncomputable def dH:FN:=fnF 1 1 sU
noncomputable abbrev uY:Stmt:=top 9
noncomputable abbrev IM:List Str:=["thing"]
noncomputable abbrev yP:List Str:=["thing"]
theorem UA:aS IM yP (aH uY):=by sleep 990
noncomputable def AJ:SF:=(cG (GV "list" "tuple" (aD 0)))
noncomputable def iQ:FN:=fnF 1 1 AJ
noncomputable abbrev eV:Stmt:=inClass (top 4) 0
noncomputable abbrev rW:List Str:=["self","at"]
noncomputable abbrev lZ:List Str:=["self","at"]
theorem yM:aS rW lZ (aH eV):=by sleep 990
noncomputable def rY:SF:=(NH "NoTie" "at" (aD 0) (aD 1))
noncomputable def lQ:FN:=fnF 2 2 rY
noncomputable abbrev vE:Stmt:=top 21
noncomputable abbrev HJ:List Str:=["one","other"]
noncomputable abbrev zO:List Str:=["one","other"]
theorem sc_common:aS HJ zO (aH vE):=by sleep 990
noncomputable def sI:SF:=(sY (LO (aD 1)) (HS 0 1 (aB (aD 1) (aB (fOp oQ (aD 0) (aD 1)) aI))))
noncomputable def KM:SF:=(bK sI
 (cG (aD 0)))
noncomputable def yN:FN:=fnF 2 2 KM
noncomputable abbrev nP:Stmt:=top 10
noncomputable abbrev xB:List Str:=["thing","length"]
noncomputable abbrev pN:List Str:=["thing","length"]
theorem GP:aS xB pN (aH nP):=by sleep 990
noncomputable def lD:SF:=(cG (jV (aM iQ (aB (aD 0) aI)) (fOp (eqX false) (aM mB (aB (aD 0) aI)) (aD 1))))
noncomputable def dE:FN:=fnF 2 2 lD
noncomputable abbrev eK:Stmt:=top 20
noncomputable abbrev iL:List Str:=["thing"]
noncomputable abbrev fE:List Str:=["thing"]
theorem oU:aS iL fE (aH eK):=by sleep 990
noncomputable def bL:SF:=(bK (sIf (gOr (pC (gB (aM dE (aB (aD 0) (aB (fC (.int 2)) aI))))) (gOr (pC (gB (aM dH (aB (fOp ixF (aD 0) (fC (.int 0))) aI)))) (pC (gB (aM dH (aB (fOp ixF (aD 0) (fC (.int 1))) aI))))))
 (cG (fC (.bool false)))
 cZ)
 (cG (jV (fOp geI (fOp ixF (aD 0) (fC (.int 0))) (fC (.int 0))) (fOp geI (fOp ixF (aD 0) (fC (.int 1))) (fC (.int 1))))))
noncomputable def bB:FN:=fnF 1 1 bL
noncomputable abbrev jM:Stmt:=top 19
noncomputable abbrev rR:List Str:=["thing"]
noncomputable abbrev lT:List Str:=["thing"]
theorem xZ:aS rR lT (aH jM):=by sleep 990
noncomputable def dF:SF:=(cG (jV (aM bB (aB (aD 0) aI)) (jV (fOp (eqX false) (fOp oQ (fC (.int 55440)) (fOp ixF (aD 0) (fC (.int 1)))) (fC (.int 0))) (fOp (eqX false) (aM yN (aB (fOp ixF (aD 0) (fC (.int 0))) (aB (fOp ixF (aD 0) (fC (.int 1))) aI))) (fC (.int 1))))))
noncomputable def cA:FN:=fnF 1 1 dF
noncomputable abbrev nG:Stmt:=top 18
noncomputable abbrev wJ:List Str:=["thing"]
noncomputable abbrev pZ:List Str:=["thing"]
theorem ER:aS wJ pZ (aH nG):=by sleep 990
noncomputable def gN:SF:=(cG (jV (aM cA (aB (aD 0) aI)) (fOp leI (fOp ixF (aD 0) (fC (.int 0))) (fC (.int 1000000000000)))))
noncomputable def cD:FN:=fnF 1 1 gN
noncomputable abbrev pH:Stmt:=top 11
noncomputable abbrev BK:List Str:=["many","thing"]
noncomputable abbrev sH:List Str:=["many","thing"]
theorem JD:aS BK sH (aH pH):=by sleep 990
noncomputable def kM:SF:=(cG (jV (aM dH (aB (aD 1) aI)) (zH leI ltI (fC (.int 0)) (aD 1) (aD 0))))
noncomputable def eS:FN:=fnF 2 2 kM
noncomputable abbrev fD:Stmt:=top 12
noncomputable abbrev jB:List Str:=["many","i","j"]
noncomputable abbrev fM:List Str:=["many","i","j"]
theorem pT:aS jB fM (aH fD):=by sleep 990
noncomputable def cB:SF:=(cG (jV (aM eS (aB (aD 0) (aB (aD 1) aI))) (jV (aM eS (aB (aD 0) (aB (aD 2) aI))) (fOp (eqX true) (aD 1) (aD 2)))))
noncomputable def bD:FN:=fnF 3 3 cB
noncomputable abbrev eY:Stmt:=top 14
noncomputable abbrev jA:List Str:=["many","thing"]
noncomputable abbrev fL:List Str:=["many","thing"]
theorem qT:aS jA fL (aH eY):=by sleep 990
noncomputable def fK:SF:=(cG (jV (aM dE (aB (aD 1) (aB (fC (.int 3)) aI))) (jV (aM bD (aB (aD 0) (aB (fOp ixF (aD 1) (fC (.int 0))) (aB (fOp ixF (aD 1) (fC (.int 1))) aI)))) (fOp ltI (fOp ixF (aD 1) (fC (.int 0))) (fOp ixF (aD 1) (fC (.int 1)))))))
noncomputable def dJ:FN:=fnF 2 2 fK
noncomputable abbrev vX:Stmt:=top 26
noncomputable abbrev IU:List Str:=["many","thing"]
noncomputable abbrev BA:List Str:=["many","thing"]
theorem SR:aS IU BA (aH vX):=by sleep 990
noncomputable def BI:SF:=(cG (jV (aM dJ (aB (aD 0) (aB (aD 1) aI))) (aM cD (aB (fOp ixF (aD 1) (fC (.int 2))) aI))))
noncomputable def qO:FN:=fnF 2 2 BI
noncomputable abbrev jE:Stmt:=top 25
noncomputable abbrev qA:List Str:=["many","ties","weights","at","row"]
noncomputable abbrev qF:List Str:=["many","ties"]
theorem sc_kept_ties:aS qA qF (aH jE):=by sleep 990
noncomputable def iJ:SFX:=(lH (HG (gOr (pC (gB (aM qO (aB (aD 0) (aB (aD 4) aI))))) (gB (aDd false (kQ (aB (fOp ixF (aD 4) (fC (.int 0))) (aB (fOp ixF (aD 4) (fC (.int 1))) aI))) (aD 2))))
 (xS "NoTie" lQ (aB (aD 3) aI))
 (liS cZ))
 (liS (pG (aD 2) (kQ (aB (fOp ixF (aD 4) (fC (.int 0))) (aB (fOp ixF (aD 4) (fC (.int 1))) aI))) (aM hJ (aB (fOp ixF (aD 4) (fC (.int 2))) aI)))))
noncomputable def mC:EF:=(fLc [none,none,none] (dA (vR (aD 2))) (sJ 2 (bZ (sJ 2 (bZ (hName 0) (bZ (hName 1) oR))) (bZ (hName 2) oR))) (gB (fOp gtI (fOp ixF (aD 2) (fC (.int 0))) (fC (.int 0)))) (bR (aB (aD 0) (aB (aD 1) (aB (aD 2) aI)))))
noncomputable def qV:SFX:=(lH (HG (pC (gB (aM iQ (aB (aD 1) aI))))
 (xS "NoTie" lQ (aB (fC (.int 0)) aI))
 (liS cZ))
 (lH (liS (cN GU (hName 2)))
 (lH (ES (aB (aD 1) aI) (bZ (hName 3) (bZ (hName 4) oR)) iJ)
 (liS (cG (aM hJ (aB mC aI)))))))
noncomputable def iV:FX:=fnX 2 5 qV
noncomputable abbrev fH:Stmt:=inClass (top 24) 0
noncomputable abbrev pS:List Str:=["self","many","ties"]
noncomputable abbrev qI:List Str:=["self","many","ties"]
theorem FD:aS pS qI (aH fH):=by sleep 990
noncomputable def lU:EF:=(fDc (.dt []) [none,none,none] (dA (gF "Web" "ties" (aD 0))) (sJ 3 (bZ (hName 0) (bZ (hName 1) (bZ (hName 2) oR)))) rN (kQ (aB (aD 0) (aB (aD 1) aI))) (aD 2))
noncomputable def oY:SFX:=(lH (HG (gOr (pC (gB (aM dH (aB (aD 1) aI)))) (gOr (gB (fOp ltI (aD 1) (fC (.int 1)))) (gB (fOp gtI (aD 1) (fC (.int 40))))))
 (uX "NoPlace")
 (liS cZ))
 (lH (liS (JH "Web" "many" (aD 0) (aD 1)))
 (lH (PU "Web" "ties" (aD 0) (yX iV (liA (aB (aD 1) (aB (aD 2) aI)))))
 (liS (JH "Web" "weights" (aD 0) lU)))))
noncomputable def fB:FX:=fnX 3 3 oY
noncomputable abbrev iT:Stmt:=inClass (top 24) 1
noncomputable abbrev AS:List Str:=["self","i","j"]
noncomputable abbrev tJ:List Str:=["self","i","j"]
theorem HQ:aS AS tJ (aH iT):=by sleep 990
noncomputable def tS:EF:=(bR (aB (fC (.int 0)) (aB (fC (.int 1)) aI)))
theorem CH(γ:Ga)(M:Sto):tS γ M=some (.d (.tuple [(.int 0),(.int 1)]),M):=rfl
noncomputable def tH:SF:=(cG (yQ (gF "Web" "weights" (aD 0)) (kQ (aB (aM jL (aB (aD 1) (aB (aD 2) aI))) (aB (aM jX (aB (aD 1) (aB (aD 2) aI))) aI))) tS))
noncomputable def eU:FN:=fnF 3 3 tH
noncomputable abbrev kW:Stmt:=top 43
noncomputable abbrev sZ:List Str:=["_law_ties_here"]
noncomputable abbrev tF:List Str:=["_law_ties_here"]
theorem JB:aS sZ tF (aH kW):=by sleep 990
noncomputable def mY:EF:=(bR (aB (fC (.int 0)) (aB (fC (.int 1)) aI)))
noncomputable def nI:EF:=(fLc [none] (dA (aD 0)) (hName 0) (gB (fOp (eqX true) (fOp ixF (aD 0) (fC (.int 2))) mY)) (aD 0))
noncomputable def sW:SF:=(cG (aM hJ (aB (aM sX (aB nI aI)) aI)))
noncomputable def gG:FN:=fnF 1 1 sW
noncomputable abbrev dN:Stmt:=top 13
noncomputable abbrev gT:List Str:=["many","i","j"]
noncomputable abbrev dZ:List Str:=["many","i","j"]
theorem mI:aS gT dZ (aH dN):=by sleep 990
noncomputable def cT:SFX:=(HG (pC (gB (aM bD (aB (aD 0) (aB (aD 1) (aB (aD 2) aI))))))
 (uX "NoPlace")
 (liS cZ))
noncomputable def bN:FX:=fnX 3 3 cT
noncomputable abbrev fN:Stmt:=top 29
noncomputable abbrev jO:List Str:=["web","i","j","weight"]
noncomputable abbrev gK:List Str:=["web","i","j","weight"]
theorem rO:aS jO gK (aH fN):=by sleep 990
noncomputable def eA:SFX:=(lH (zT (yX bN (liA (aB (gF "Web" "many" (aD 0)) (aB (aD 1) (aB (aD 2) aI))))))
 (HG (pC (gB (aM cD (aB (aD 3) aI))))
  (uX "NoWeight")
  (liS cZ)))
noncomputable def cI:FX:=fnX 4 4 eA
noncomputable abbrev nX:Stmt:=top 28
noncomputable abbrev vN:List Str:=["web","i","j","weight","low","high","kept"]
noncomputable abbrev vW:List Str:=["web","i","j","weight"]
theorem sc_changed:aS vN vW (aH nX):=by sleep 990
noncomputable def qP:EF:=(fLc [some 4,some 5,none] (dA (gF "Web" "ties" (aD 0))) (hName 2) (gB (fOp (eqX true) (bR (aB (fOp ixF (aD 2) (fC (.int 0))) (aB (fOp ixF (aD 2) (fC (.int 1))) aI))) (bR (aB (aD 0) (aB (aD 1) aI))))) (aD 2))
noncomputable def rF:SFX:=(lH (zT (yX cI (liA (aB (aD 0) (aB (aD 1) (aB (aD 2) (aB (aD 3) aI)))))))
 (lH (liS (cN (bR (aB (aM jL (aB (aD 1) (aB (aD 2) aI))) (aB (aM jX (aB (aD 1) (aB (aD 2) aI))) aI))) (sJ 2 (bZ (hName 4) (bZ (hName 5) oR)))))
 (lH (liS (cN qP (hName 6)))
 (QO (IS "Web" fB (aB (gF "Web" "many" (aD 0)) (aB (fOp xN (aD 6) (uE (aB (oJ (aB (aD 4) (aB (aD 5) (aB (aD 3) aI)))) aI))) aI)))))))
noncomputable def eI:FX:=fnX 4 7 rF
noncomputable abbrev fU:Stmt:=top 44
noncomputable abbrev jD:List Str:=["_law_web","_law_ties_here","_law_i","_law_j","_law_weight_here","_law_own","_law_due_here","_law_handed","_law_first","_law_second"]
noncomputable abbrev mZ:List Str:=["_law_web","_law_ties_here","_law_i","_law_j","_law_weight_here"]
theorem sc__law_right:aS jD mZ (aH fU):=by sleep 990
noncomputable def jT:EF:=(fDL [none] (dA (aD 1)) (hName 0) rN (kQ (aB (fOp ixF (aD 0) (fC (.int 0))) (aB (fOp ixF (aD 0) (fC (.int 1))) aI))) (fOp ixF (aD 0) (fC (.int 2))))
noncomputable def kH:EF:=(fLc [some 5,none] (JE (aD 5)) (hName 1) rN (bR (aB (fOp ixF (aD 1) (fC (.int 0))) (aB (fOp ixF (aD 1) (fC (.int 1))) (aB (wU (aD 0) (kT (aD 1))) aI)))))
noncomputable def nN:SF:=(bK (cN jT (hName 5))
 (bK (HX 5 (pG (aD 5) (kQ (aB (aM jL (aB (aD 2) (aB (aD 3) aI))) (aB (aM jX (aB (aD 2) (aB (aD 3) aI))) aI))) (aD 4)))
 (bK (cN (aM kF (aB (bR (aB (gF "Web" "many" (aD 0)) (aB (aM gG (aB kH aI)) aI))) aI)) (hName 6))
 (bK (cN (aM JI (aB (aD 4) aI)) (hName 7))
 (bK (cN (wB eI (aB (aD 0) (aB (aD 2) (aB (aD 3) (aB (aD 4) aI))))) (hName 8))
 (bK (cN (wB eI (aB (aD 0) (aB (aD 3) (aB (aD 2) (aB (aD 7) aI))))) (hName 9))
 (bK (sIf (gB (fOp (eqY true) (aD 7) (aM ED (aB (aD 4) aI))))
  (cG (fC (.bool false)))
  cZ)
 (bK (cN (fC (.int 7)) (hSub (aD 7) (fC (.int 0)) BF))
 (bK (AR (uN "list" iG (aD 7) (aB (fC (.int 3)) aI)))
 (bK (sIf (gOr (gB (fOp (eqX true) (aM kF (aB (bR (aB (gF "Web" "many" (aD 8)) (aB (gF "Web" "ties" (aD 8)) aI))) aI)) (aD 6))) (gB (fOp (eqX true) (aM kF (aB (bR (aB (gF "Web" "many" (aD 9)) (aB (gF "Web" "ties" (aD 9)) aI))) aI)) (aD 6))))
  (cG (fC (.bool false)))
  cZ)
 (cG (jV (fOp (eqX false) (aM kF (aB (pF "Web" "tie" eU (aD 8) (aB (aD 3) (aB (aD 2) aI))) aI)) (aM kF (aB (aD 4) aI))) (fOp (eqX false) (aM kF (aB (gF "Web" "ties" (aD 0)) aI)) (aM kF (aB (aM gG (aB (aD 1) aI)) aI)))))))))))))))
noncomputable def jG:FN:=fnF 5 10 nN
noncomputable abbrev lM:Stmt:=top 36
noncomputable abbrev mV:List Str:=["_law_stream_here","_law_script","_law_depth","_law_kind","_law_some"]
noncomputable abbrev nV:List Str:=["_law_stream_here","_law_script","_law_depth"]
theorem sc__law_any:aS mV nV (aH lM):=by sleep 990
noncomputable def uT:EF:=(nH (aB (fC (.int 0)) (aB (fC (.int 1)) (aB (fC (.int 2)) (aB (fC (.int 3)) (aB (fUn CM (fC (.int 1))) (aB (fC (.int 40)) (aB (fC (.int 55440)) aI))))))))
noncomputable def uJ:EF:=(nH (aB (fC (.bool true)) (aB (fC (.bool false)) (aB (fC .none) aI))))
noncomputable def tY:EF:=(nH (aB (fC (.str "")) (aB (fC (.str "1")) (aB (fC (.str "1/2")) (aB (fC (.str "place")) (aB (fC (.str "tie")) (aB (fC (.str "ab")) aI)))))))
noncomputable def tT(self:FN):EF:=(fLc [some 0,some 1,some 2,none] (kY (aB (aM aU (aB (aD 0) (aB (fC (.int 4)) aI))) aI)) (hName 3) rN (aM self (aB (aD 0) (aB (aD 1) (aB (fOp vJ (aD 2) (fC (.int 1))) aI)))))
noncomputable def cP(self:FN):SF:=(bK (cN (aM aU (aB (aD 0) (aB (fOp vJ (fC (.int 9)) (fOp ID (fC (.int 3)) (aM VY (aB (fOp (eqX false) (aD 2) (fC (.int 0))) aI)))) aI))) (hName 3))
 (bK (sIf (gB (fOp (eqX false) (aD 3) (fC (.int 0))))
  (cG (fIf (gB (fOp (eqX true) (aD 1) (nH aI))) (fOp vJ (fOp oQ (fOp ixF (aD 1) (fC (.int 0))) (fOp vC (fC (.int 10)) (fC (.int 40)))) (fOp vC (fC (.int 10)) (fC (.int 39)))) (fUn CM (fC (.int 1)))))
  cZ)
 (bK (sIf (gB (fOp (eqX false) (aD 3) (fC (.int 1))))
  (cG (fOp ixF uT (aM aU (aB (aD 0) (aB (fC (.int 7)) aI)))))
  cZ)
 (bK (sIf (gB (fOp (eqX false) (aD 3) (fC (.int 2))))
  (cG (fOp ixF uJ (aM aU (aB (aD 0) (aB (fC (.int 3)) aI)))))
  cZ)
 (bK (sIf (gB (fOp ltI (aD 3) (fC (.int 6))))
  (cG (fOp ixF tY (aM aU (aB (aD 0) (aB (fC (.int 6)) aI)))))
  cZ)
 (bK (cN (tT self) (hName 4))
 (bK (sIf (gB (fOp (eqX false) (aD 3) (fC (.int 6))))
  (cG (aM hJ (aB (aD 4) aI)))
  cZ)
 (bK (sIf (gB (fOp (eqX false) (aD 3) (fC (.int 7))))
  (cG (aD 4))
  cZ)
 (cG (HP [((fC (.int 0)),(aD 4)),((fC (.str "a")),(fC .none))]))))))))))
noncomputable def gL:Nat->FN
 |0=>fun _ _=>none
 |n+1=>fnF 3 5 (cP (gL n))
noncomputable abbrev nW:Stmt:=top 41
noncomputable abbrev wY:List Str:=["_law_stream_here","_law_row","_law_place","_law_kind","_law_some"]
noncomputable abbrev qD:List Str:=["_law_stream_here","_law_row"]
theorem sc__law_bent:aS wY qD (aH nW):=by sleep 990
noncomputable def rZ:EF:=(nH (aB (fC .none) (aB (fC (.bool true)) (aB (fC (.bool false)) (aB (fUn CM (fC (.int 1))) (aB (fC (.int 0)) (aB (fC (.int 1)) (aB (fC (.int 40)) (aB (fOp dW (fOp vC (fC (.int 10)) (fC (.int 12))) (fC (.int 1))) (aB (fC (.str "")) (aB (fC (.str "1")) (aB (bR aI) (aB (bR (aB (fC (.int 1)) (aB (fC (.int 2)) aI))) (aB (bR (aB (fC (.int 2)) (aB (fC (.int 2)) aI))) (aB (bR (aB (fC (.int 0)) (aB (fC (.int 2)) aI))) (aB (bR (aB (fC (.int 1)) (aB (fC (.int 13)) aI))) (aB NW aI)))))))))))))))))
noncomputable def iN:SF:=(bK (cN (aM aU (aB (aD 0) (aB (aM mB (aB (aD 1) aI)) aI))) (hName 2))
 (bK (cN (aM aU (aB (aD 0) (aB (fC (.int 4)) aI))) (hName 3))
 (bK (sIf (gB (fOp (eqX false) (aD 3) (fC (.int 0))))
  (cG (fOp dW (fSl (aD 1) eO (lB (aD 2))) (fSl (aD 1) (lB (fOp dW (aD 2) (fC (.int 1)))) eO)))
  cZ)
 (bK (sIf (gB (fOp (eqX false) (aD 3) (fC (.int 1))))
  (cG (fOp dW (fOp dW (fSl (aD 1) eO (lB (aD 2))) (bR (aB (fOp ixF (aD 1) (aD 2)) aI))) (fSl (aD 1) (lB (aD 2)) eO)))
  cZ)
 (bK (cN rZ (hName 4))
 (cG (fOp dW (fOp dW (fSl (aD 1) eO (lB (aD 2))) (bR (aB (fOp ixF (aD 4) (aM aU (aB (aD 0) (aB (fC (.int 16)) aI)))) aI))) (fSl (aD 1) (lB (fOp dW (aD 2) (fC (.int 1)))) eO))))))))
noncomputable def eZ:FN:=fnF 2 5 iN
noncomputable abbrev oX:Stmt:=top 47
noncomputable abbrev BB:List Str:=["_law_stream_here","_law_script","_law_many","_law_places","_law_weights"]
noncomputable abbrev tI:List Str:=["_law_stream_here","_law_script","_law_many"]
theorem sc__law_odd:aS BB tI (aH oX):=by sleep 990
noncomputable def tZ:EF:=(bR (aB (fC (.int 0)) aI))
theorem CC(γ:Ga)(M:Sto):tZ γ M=some (.d (.tuple [(.int 0)]),M):=rfl
noncomputable def uO:EF:=(bR (aB (fUn CM (fC (.int 1))) (aB (fC (.int 1)) aI)))
theorem CA(γ:Ga)(M:Sto):uO γ M=some (.d (.tuple [(.int (-1)),(.int 1)]),M):=rfl
noncomputable def uH:EF:=(bR (aB (fOp dW (fOp vC (fC (.int 10)) (fC (.int 12))) (fC (.int 1))) (aB (fC (.int 1)) aI)))
theorem BY(γ:Ga)(M:Sto):uH γ M=some (.d (.tuple [(.int 1000000000001),(.int 1)]),M):=rfl
noncomputable def uL:EF:=(bR (aB (fC (.int 1)) (aB (fC (.int 13)) aI)))
theorem CG(γ:Ga)(M:Sto):uL γ M=some (.d (.tuple [(.int 1),(.int 13)]),M):=rfl
noncomputable def tR:EF:=(bR (aB (fC (.int 0)) (aB (fC (.int 2)) aI)))
theorem CF(γ:Ga)(M:Sto):tR γ M=some (.d (.tuple [(.int 0),(.int 2)]),M):=rfl
noncomputable def tV:EF:=(bR (aB (fC (.int 2)) (aB (fC (.int 2)) aI)))
theorem BW(γ:Ga)(M:Sto):tV γ M=some (.d (.tuple [(.int 2),(.int 2)]),M):=rfl
noncomputable def sL:SF:=(bK (cN (nH (aB (aD 2) (aB (fUn CM (fC (.int 1))) (aB (fC (.bool true)) (aB (fC .none) (aB (fC (.str "0")) (aB tZ (aB (fOp vC (fC (.int 10)) (fC (.int 30))) (aB (fC (.int 0)) (aB (aM (gL 4) (aB (aD 0) (aB (aD 1) (aB (fC (.int 2)) aI)))) aI)))))))))) (hName 3))
 (bK (cN (nH (aB tV (aB tR (aB uL (aB uH (aB (fC (.int 1)) (aB (fC .none) (aB (fC (.bool true)) (aB (bR aI) (aB uO (aB (aM (gL 4) (aB (aD 0) (aB (aD 1) (aB (fC (.int 2)) aI)))) aI))))))))))) (hName 4))
 (cG (bR (aB (aM dD (aB (aD 0) (aB (aD 3) aI))) (aB (aM dD (aB (aD 0) (aB (aD 4) aI))) (aB (aM eZ (aB (aD 0) (aB (aM bQ (aB (aD 0) aI)) aI))) aI)))))))
noncomputable def nR:FN:=fnF 3 5 sL
noncomputable abbrev iX:Stmt:=top 45
noncomputable abbrev oV:List Str:=["_law_web","_law_i","_law_j","_law_weight_here","_law_found","error"]
noncomputable abbrev kN:List Str:=["_law_web","_law_i","_law_j","_law_weight_here"]
theorem sc__law_refused:aS oV kN (aH iX):=by sleep 990
noncomputable def mG:SF:=(bK (cN (bR (aB (fC (.str "weight")) (aB (jV (jS dR (some false) (aD 5)) (jS cV (some false) (aD 5))) (aB (jS kB (some false) (aD 5)) aI)))) (hName 4))
 (cN (fOp dW (aD 4) (bR (aB (jS iU (some false) (aD 5)) (aB (jS fF (some false) (aD 5)) (aB (jS gO (some false) (aD 5)) aI))))) (hName 4)))
noncomputable def mF:SF:=(bK (cN (bR (aB (fC (.str "place")) (aB (jV (jS dR (some false) (aD 5)) (jS cV (some false) (aD 5))) (aB (jS iS (some false) (aD 5)) aI)))) (hName 4))
 (cN (fOp dW (aD 4) (bR (aB (jS iU (some false) (aD 5)) (aB (jS fF (some false) (aD 5)) (aB (jS gO (some false) (aD 5)) aI))))) (hName 4)))
noncomputable def fI:SFX:=(PQ (SB (zF (liE (fC (.str "web"))) (zF (RI "Web" "many" (yX eI (liA (aB (aD 0) (aB (aD 1) (aB (aD 2) (aB (aD 3) aI))))))) (liA aI)))) (hName 4))
noncomputable def fA:SF:=(bK (cN (fC .none) (hName 4))
 (bK (aBO fI [⟨[("NoPlace",true),("NoTie",false),("NoWeight",false)],(some 5),mF⟩,⟨[("NoPlace",false),("NoTie",false),("NoWeight",true)],(some 5),mG⟩])
 (cG (aD 4))))
noncomputable def dM:FN:=fnF 4 6 fA
noncomputable abbrev iA:Stmt:=top 38
noncomputable abbrev oE:List Str:=["_law_thing","_law_low","_law_most"]
noncomputable abbrev iW:List Str:=["_law_thing","_law_low","_law_most"]
theorem vA:aS oE iW (aH iA):=by sleep 990
noncomputable def iY:SF:=(cG (jV (FO "int" (aD 0)) (jV (RS (FO "bool" (aD 0))) (zH leI leI (aD 1) (aD 0) (aD 2)))))
noncomputable def eC:FN:=fnF 3 3 iY
noncomputable abbrev jP:Stmt:=top 37
noncomputable abbrev sD:List Str:=["_law_thing"]
noncomputable abbrev lR:List Str:=["_law_thing"]
theorem yG:aS sD lR (aH jP):=by sleep 990
noncomputable def rQ:SF:=(cG (fOr (FO "list" (aD 0)) (FO "tuple" (aD 0))))
noncomputable def iH:FN:=fnF 1 1 rQ
noncomputable abbrev eL:Stmt:=top 39
noncomputable abbrev iC:List Str:=["_law_thing"]
noncomputable abbrev iE:List Str:=["_law_thing"]
theorem uR:aS iC iE (aH eL):=by sleep 990
noncomputable def gH:EF:=(fLc [none] (dA (aD 0)) (hName 0) rN (jV (FO "int" (aD 0)) (RS (FO "bool" (aD 0)))))
noncomputable def bU:SF:=(bK (sIf (gOr (pC (gB (aM iH (aB (aD 0) aI)))) (gB (fOp (eqX true) (aM mB (aB (aD 0) aI)) (fC (.int 2)))))
 (cG (fC (.bool false)))
 cZ)
 (bK (sIf (gOr (pC (gB (aM LK (aB gH aI)))) (gOr (gB (fOp ltI (fOp ixF (aD 0) (fC (.int 0))) (fC (.int 0)))) (gB (fOp ltI (fOp ixF (aD 0) (fC (.int 1))) (fC (.int 1))))))
  (cG (fC (.bool false)))
  cZ)
 (cG (fOp (eqX false) (aM gS (aB (fOp ixF (aD 0) (fC (.int 0))) (aB (fOp ixF (aD 0) (fC (.int 1))) aI))) (bR (aB (fOp ixF (aD 0) (fC (.int 0))) (aB (fOp ixF (aD 0) (fC (.int 1))) aI)))))))
noncomputable def bI:FN:=fnF 1 1 bU
noncomputable abbrev gW:Stmt:=top 40
noncomputable abbrev mH:List Str:=["_law_thing"]
noncomputable abbrev hX:List Str:=["_law_thing"]
theorem tP:aS mH hX (aH gW):=by sleep 990
noncomputable def cW:SF:=(cG (jV (aM bI (aB (aD 0) aI)) (jV (fOp leI (fOp ixF (aD 0) (fC (.int 0))) (fOp vC (fC (.int 10)) (fC (.int 12)))) (fOp (eqX false) (fOp oQ (fC (.int 55440)) (fOp ixF (aD 0) (fC (.int 1)))) (fC (.int 0))))))
noncomputable def bV:FN:=fnF 1 1 cW
noncomputable abbrev nY:Stmt:=top 46
noncomputable abbrev wL:List Str:=["_law_many","_law_i","_law_j","_law_weight_here"]
noncomputable abbrev pK:List Str:=["_law_many","_law_i","_law_j","_law_weight_here"]
theorem GB:aS wL pK (aH nY):=by sleep 990
noncomputable def lV:EF:=(bR (aB (fC (.str "place")) (aB (fC (.bool true)) (aB (fC (.bool false)) (aB (fC (.bool false)) (aB (fC (.bool false)) (aB (fC (.bool false)) aI)))))))
theorem BJ(γ:Ga)(M:Sto):lV γ M=some (.d (.tuple [(.str "place"),(.bool true),(.bool false),(.bool false),(.bool false),(.bool false)]),M):=rfl
noncomputable def mD:EF:=(bR (aB (fC (.str "weight")) (aB (fC (.bool true)) (aB (fC (.bool false)) (aB (fC (.bool false)) (aB (fC (.bool false)) (aB (fC (.bool false)) aI)))))))
theorem yA(γ:Ga)(M:Sto):mD γ M=some (.d (.tuple [(.str "weight"),(.bool true),(.bool false),(.bool false),(.bool false),(.bool false)]),M):=rfl
noncomputable def eR:SF:=(bK (sIf (gOr (pC (gB (aM eC (aB (aD 1) (aB (fC (.int 0)) (aB (fOp vJ (aD 0) (fC (.int 1))) aI)))))) (gOr (pC (gB (aM eC (aB (aD 2) (aB (fC (.int 0)) (aB (fOp vJ (aD 0) (fC (.int 1))) aI)))))) (gB (fOp (eqX false) (aD 1) (aD 2)))))
 (cG lV)
 cZ)
 (bK (sIf (pC (gB (aM bV (aB (aD 3) aI))))
  (cG mD)
  cZ)
 (cG (bR (aB (fC (.str "web")) (aB (aD 0) aI))))))
noncomputable def dP:FN:=fnF 4 4 eR
noncomputable abbrev HD:Stmt:=top 48
noncomputable abbrev WT:List Str:=["_law_script","_law_k","_law_stream_here","_law_many","_law_ties_here","_law_web","_law_turn","_law_i","_law_j","_law_weight_here","_law_place","_law_odd_here","_law_bent_here","_law_one","_law_other","_law_thing"]
noncomputable abbrev aDF:List Str:=["_law_script"]
theorem sc_law:aS WT aDF (aH HD):=by sleep 990
noncomputable def PD:EF:=(bR (aB (fC (.int 0)) (aB (fC (.int 1)) aI)))
theorem WM(γ:Ga)(M:Sto):PD γ M=some (.d (.tuple [(.int 0),(.int 1)]),M):=rfl
noncomputable def FH:EF:=(aAW [some 7,some 8,none] (dA (aD 4)) (hName 2) (gB (fOp (eqX true) (bR (aB (fOp ixF (aD 2) (fC (.int 0))) (aB (fOp ixF (aD 2) (fC (.int 1))) aI))) (bR (aB (aM jL (aB (aD 0) (aB (aD 1) aI))) (aB (aM jX (aB (aD 0) (aB (aD 1) aI))) aI))))) (aD 2))
noncomputable def uC:SF:=(sIf (gB (fOp (eqX true) (aM dM (aB (aD 5) (aB (aD 13) (aB (aD 14) (aB (aD 15) aI))))) (aM dP (aB (aD 3) (aB (aD 13) (aB (aD 14) (aB (aD 15) aI)))))))
 (cG (fC (.bool false)))
 cZ)
noncomputable def xV:SF:=(bK (cN (aM aU (aB (aD 2) (aB (aD 3) aI))) (hName 7))
 (bK (cN (fOp oQ (fOp dW (fOp dW (aD 7) (fC (.int 1))) (aM aU (aB (aD 2) (aB (fOp vJ (aD 3) (fC (.int 1))) aI)))) (aD 3)) (hName 8))
 (bK (cN (fOp ixF (nH (aB (aM bQ (aB (aD 2) aI)) (aB (pF "Web" "tie" eU (aD 5) (aB (aD 7) (aB (aD 8) aI))) (aB PD aI)))) (fOp oQ (aM aU (aB (aD 2) (aB (fC (.int 5)) aI))) (fC (.int 3)))) (hName 9))
 (bK (sIf (pC (gB (aM jG (aB (aD 5) (aB (aD 4) (aB (aD 7) (aB (aD 8) (aB (aD 9) aI))))))))
  (cG (fC (.bool false)))
  cZ)
 (bK (cN (wB eI (aB (aD 5) (aB (aD 7) (aB (aD 8) (aB (aD 9) aI))))) (hName 5))
 (bK (cN FH (hName 4))
 (bK (XM 4 (AR (uN "list" iG (aD 4) (aB (bR (aB (aM jL (aB (aD 7) (aB (aD 8) aI))) (aB (aM jX (aB (aD 7) (aB (aD 8) aI))) (aB (aD 9) aI)))) aI))))
 (bK (cN (aM nR (aB (aD 2) (aB (aD 0) (aB (aD 3) aI)))) (sJ 3 (bZ (hName 10) (bZ (hName 11) (bZ (hName 12) oR)))))
 (xK (dA (nH (aB (bR (aB (aD 10) (aB (aD 8) (aB (aD 11) aI)))) (aB (bR (aB (aD 7) (aB (aD 10) (aB (aD 9) aI)))) (aB (bR (aB (aD 7) (aB (aD 7) (aB (aD 11) aI)))) (aB (bR (aB (aD 7) (aB (aD 8) (aB (aD 11) aI)))) (aB (bR (aB (aD 7) (aB (aD 8) (aB (aD 12) aI)))) aI))))))) (sJ 3 (bZ (hName 13) (bZ (hName 14) (bZ (hName 15) oR)))) uC)))))))))
noncomputable def xW:SF:=(bK (cN (aM eJ (aB (aD 0) (aB (aD 1) aI))) (hName 2))
 (bK (cN (fOp dW (fC (.int 2)) (aM aU (aB (aD 2) (aB (fC (.int 8)) aI)))) (hName 3))
 (bK (cN (aM kS (aB (aD 2) (aB (aD 3) aI))) (hName 4))
 (bK (cN (AH "Web" fB (aB (aD 3) (aB (aD 4) aI))) (hName 5))
 (xK (kY (aB (fC (.int 6)) aI)) (hName 6) xV)))))
noncomputable def VZ:SF:=(bK (xK (kY (aB (fC (.int 4)) aI)) (hName 1) xW)
 (cG (fC (.bool true))))
noncomputable def F_law:FN:=fnF 1 16 VZ
structure Txt(K:Fg)(mg:Str->Option Value):Prop where
 hB:SV mg ["ValueError","all","bool","dict","enumerate","int","isinstance","len","list","max","min","range","repr","sorted","tuple"]
 v150:∃t:Tok,mg "MOST_ABOVE"=some (.int 1000000000000 t)
 v151:∃t:Tok,mg "BELOW"=some (.int 55440 t)
 v152:∃t:Tok,mg "MOST_PLACES"=some (.int 40 t)
 v135:mg "NoPlace"=some (.ref (aR K "NoPlace"))
 v19:PySem.W.excIn K (aR K "NoPlace") bmV "ValueError.__new__"=true
 v136:mg "NoTie"=some (.ref (aR K "NoTie"))
 v137:XC K (aR K "NoTie")
 v138:mg "Web"=some (.ref (aR K "Web"))
 v139:Cls K (aR K "Web")
 v34:eX K (aR K "Web") "ties"
 v35:eX K (aR K "Web") "many"
 v140:mg "NoWeight"=some (.ref (aR K "NoWeight"))
 v37:PySem.W.excIn K (aR K "NoWeight") bmV "ValueError.__new__"=true
 v38:PySem.W.exmOne K (.ref (aR K "NoWeight")) (.ref (aR K "NoWeight"))=some true
 v39:PySem.W.exmOne K (.ref (aR K "NoTie")) (.ref (aR K "NoWeight"))=some false
 v40:PySem.W.exmOne K (.ref (aR K "NoPlace")) (.ref (aR K "NoWeight"))=some false
 v141:XC K (aR K "NoPlace")
 v142:XC K (aR K "NoWeight")
 v57:kJ K (.ref (aR K "NoPlace")) kB=true
 v58:PySem.W.kitOne K (.type "NoneType") (.ref (aR K "NoPlace"))=some false
 v59:kJ K (.type "ValueError") cV=true
 v60:PySem.W.kitOne K (.type "NoneType") (.type "ValueError")=some false
 v143:mg "CutError"=some (.ref (aR K "CutError"))
 v62:kJ K (.ref (aR K "CutError")) dR=true
 v63:PySem.W.kitOne K (.type "NoneType") (.ref (aR K "CutError"))=some false
 v144:mg "NoLine"=some (.ref (aR K "NoLine"))
 v65:kJ K (.ref (aR K "NoLine")) gO=true
 v66:PySem.W.kitOne K (.type "NoneType") (.ref (aR K "NoLine"))=some false
 v145:mg "TooMany"=some (.ref (aR K "TooMany"))
 v68:kJ K (.ref (aR K "TooMany")) fF=true
 v69:PySem.W.kitOne K (.type "NoneType") (.ref (aR K "TooMany"))=some false
 v70:kJ K (.ref (aR K "NoTie")) iU=true
 v71:PySem.W.kitOne K (.type "NoneType") (.ref (aR K "NoTie"))=some false
 v72:PySem.W.exmOne K (.ref (aR K "NoWeight")) (.ref (aR K "NoPlace"))=some false
 v73:PySem.W.exmOne K (.ref (aR K "NoTie")) (.ref (aR K "NoPlace"))=some false
 v74:PySem.W.exmOne K (.ref (aR K "NoPlace")) (.ref (aR K "NoPlace"))=some true
 v75:kJ K (.ref (aR K "NoWeight")) iS=true
 v76:PySem.W.kitOne K (.type "NoneType") (.ref (aR K "NoWeight"))=some false
 v146:ZV K (aR K "NoTie") "at"
 v82:PySem.W.keepIn K (.ref (aR K "NoTie"))=true
 v83:FZ K (aR K "NoTie")=true
 v147:CJ K "NoTie" "__init__" "NoTie.__init__" eV
 v89:eX K (aR K "Web") "weights"
 v148:CJ K "Web" "__init__" "Web.__init__" fH
 v95:PySem.W.makesIn K (aR K "Web")=true
 v96:PySem.W.keepIn K (.ref (aR K "Web"))=true
 v149:CJ K "Web" "tie" "Web.tie" iT
 v102:Def K mg "_law_stream" jR
 v103:Def K mg "_law_take" nE
 v104:Def K mg "_law_pick" nT
 v105:Def K mg "_law_least" mE
 v106:Def K mg "_law_weight" jK
 v107:Def K mg "_law_ties" nK
 v108:Def K mg "is_whole" qQ
 v109:Def K mg "is_row" uY
 v110:Def K mg "common" vE
 v111:Def K mg "is_row_of" nP
 v112:Def K mg "has_amount_numbers" eK
 v113:Def K mg "is_in_parts" jM
 v114:Def K mg "is_weight" nG
 v115:Def K mg "is_place" pH
 v116:Def K mg "are_unlike_places" fD
 v117:Def K mg "is_between_places" eY
 v118:Def K mg "is_tie" vX
 v119:Def K mg "kept_ties" jE
 v120:Def K mg "_law_due" kW
 v121:Def K mg "refuse_no_two_places" dN
 v122:Def K mg "refuse_no_change" fN
 v123:Def K mg "changed" nX
 v124:Def K mg "_law_right" fU
 v125:Def K mg "_law_any" lM
 v126:Def K mg "_law_bent" nW
 v127:Def K mg "_law_odd" oX
 v128:Def K mg "_law_refused" iX
 v129:Def K mg "_law_is_whole" iA
 v130:Def K mg "_law_is_row" jP
 v131:Def K mg "_law_is_amount" eL
 v132:Def K mg "_law_is_weight" gW
 v133:Def K mg "_law_told" nY
 v134:Def K mg "law" HD
section
variable{P:Program}{w:World}{K:Fg}{mg:Str->Option Value}{base:Heap}
theorem fZ(T:Txt K mg):∀nm∈(["NoPlace","NoTie","NoWeight"]:List Str),XC K (aR K nm):=(AD T.v141 (AD T.v137 (AD T.v142 aBn)))
theorem BP(T:Txt K mg):Callee P w K mg base 1 "_law_stream" lX (spM K eJ):=
 T.v102.okG (N:=sC) (ps:=lX) (k:=0) (b:=fV) sc__law_stream (by sleep 992) fun f cdv A outer s H E hr=>
  (aN (eW (bX CP (aC 1) (bH EC (fun _=>T.hB.of "len") boot_len (aA (aC 0) aF)))
   (aN (bG 2 (fun _=>sc__law_stream.nd) (bE cM (aC 0) (aC 1)))
   (aN (bG 3 (fun _=>sc__law_stream.nd) (bA fJ (bA fJ (bA oH (aC 2) aE) (bA JW (aC 1) (aC 1))) aE))
   (aN (eW (bX CP (aC 2) (bA sE aE aE))
    (aT (bG 2 (fun _=>sc__law_stream.nd) aE))
    cE)
   (aT (aY (NX (aA (aC 2) (aA (aC 3) aF))))))))
    cE)
   (aT (aY (NX (aA aE (aA (bA fJ (bA JW (aC 1) (aC 1)) aE) aF))))))
theorem aW(T:Txt K mg):Callee P w K mg base 1 "_law_take" oZ (spM K aU):=
 T.v103.okG (N:=wH) (ps:=oZ) (k:=0) (b:=kU) sc__law_take (by sleep 992) fun f cdv A outer s H E hr=>
  (aN (eW (bX (oP (fun _=>rfl) (fun _=>hr.units)) (bE cM (aC 0) aE) aE)
   (aN (AQ (bA oH (bA fJ (bA JW (bE cM (aC 0) aE) aE) aE) aE) (LB aAu (aC 0) aE))
   (aT (aY (bA oH (bA oH (bA JW (bE cM (aC 0) aE) (bE cM (aC 0) aE)) aE) (aC 1)))))
    cE)
   (aN (bG 2 (fun _=>sc__law_take.nd) (bA oH (bE cM (aC 0) aE) (aC 1)))
   (aN (AQ (bA NN (bE cM (aC 0) aE) (aC 1)) (LB aAu (aC 0) aE))
   (aT (aY (aC 2))))))
theorem nQ(T:Txt K mg):Callee P w K mg base 2 "_law_pick" pR (spM K dD):=
 T.v104.okG (N:=wG) (ps:=pR) (k:=1) (b:=pE) GS (by sleep 992) fun f cdv A outer s H E hr=>
  (aT (aY (bE cM (aC 1) (aQ (fun _=>aW T) hr.le (aA (aC 0) (aA (bH EC (fun _=>T.hB.of "len") boot_len (aA (aC 1) aF)) aF))))))
theorem sG(T:Txt K mg):Callee P w K mg base 1 "_law_least" nO (spM K gS):=
 T.v105.okG (N:=tO) (ps:=nO) (k:=0) (b:=mW) sc__law_least (by sleep 992) fun f cdv A outer s H E hr=>
  (aN (bG 2 (fun _=>sc__law_least.nd) (aC 0))
   (aN (bG 3 (fun _=>sc__law_least.nd) (aC 1))
   (aN (HM (fun _=>O9) (bX aFr (aC 3) aE) (aT (VQ 2 3 (fun _=>rfl) (fun _=>sc__law_least.nd) (aA (aC 3) (aA (bA oH (aC 2) (aC 3)) aF)))))
   (aT (aY (aZ (aA (bA NN (aC 0) (aC 2)) (aA (bA NN (aC 1) (aC 2)) aF))))))))
theorem kI(T:Txt K mg):Callee P w K mg base 3 "_law_weight" lP (spM K bQ):=
 T.v106.okG (N:=rS) (ps:=lP) (k:=2) (b:=fW) sc__law_weight (by sleep 991) fun f cdv A outer s H E hr=>
  (aN (bG 1 (fun _=>sc__law_weight.nd) (aQ (fun _=>aW T) hr.le (aA (aC 0) (aA aE aF))))
   (aN (eW (bX CP (aC 1) aE)
    (aT (aY (bE cM (gV (aA (aZ (aA aE (aA aE aF))) (aA (aZ (aA aE (aA aE aF))) (aA (aZ (aA aE (aA aE aF))) (aA (aZ (aA aE (aA aE aF))) (aA (aZ (aA aE (aA aE aF))) (aA (aZ (aA aE (aA aE aF))) aF))))))) (aC 1))))
    cE)
   (aN (bG 2 (fun _=>sc__law_weight.nd) (aQ (fun _=>nQ T) hr.le (aA (aC 0) (aA (gV (aA aE (aA aE (aA aE (aA aE (aA aE (aA aE (aA aE (aA aE (aA aE (aA aE (aA aE (aA aE (aA aE (aA aE (aA aE (aA aE aF))))))))))))))))) aF))))
   (aN (bG 3 (fun _=>sc__law_weight.nd) (aQ (fun _=>aW T) hr.le (aA (aC 0) (aA aE aF))))
   (aN (eW (bX (oP (fun _=>rfl) (fun _=>hr.units)) (aC 1) aE)
    (aT (bG 3 (fun _=>sc__law_weight.nd) (bE cM (gV (aA (bA sE aE aE) (aA (bA zI (bA sE aE aE) aE) (aA aE (aA (bA fJ (bA sE aE aE) (aQ (fun _=>aW T) hr.le (aA (aC 0) (aA aE aF)))) aF))))) (aQ (fun _=>aW T) hr.le (aA (aC 0) (aA aE aF))))))
    cE)
   (aT (aY (aQ (fun _=>sG T) hr.le (aA (aC 3) (aA (aC 2) aF))))))))))
theorem EW(T:Txt K mg):Callee P w K mg base 4 "_law_ties" pA (spM K kS):=
 T.v107.okG (N:=wF) (ps:=pA) (k:=3) (b:=pL) sc__law_ties (by sleep 992) fun f cdv A outer s H E hr=>
  (aN (bG 2 (fun _=>sc__law_ties.nd) (aQ (fun _=>aW T) hr.le (aA (aC 0) (aA aE aF))))
   (aN (bG 3 (fun _=>sc__law_ties.nd) (gV aF))
   (aN (zX (fun _=>O9) (fun _=>rfl) (tU (fun _=>T.hB.of "range") (aA (aC 1) aF)) (bO 4 (fun _=>sc__law_ties.nd))
    (aT (zX (fun _=>O9) (fun _=>rfl) (tU (fun _=>T.hB.of "range") (aA (aC 4) aF)) (bO 5 (fun _=>sc__law_ties.nd))
    (aT (eW (bX CP (aQ (fun _=>aW T) hr.le (aA (aC 0) (aA aE aF))) (aC 2))
    (aN (bG 6 (fun _=>sc__law_ties.nd) (aQ (fun _=>aW T) hr.le (aA (aC 0) (aA (bA fJ (bH EC (fun _=>T.hB.of "len") boot_len (aA (aC 3) aF)) aE) aF))))
   (aT (bG 3 (fun _=>sc__law_ties.nd) (bA fJ (bA fJ (wV (fun _=>rfl) (aC 3) lJ (lN (aC 6))) (gV (aA (aZ (aA (aC 5) (aA (aC 4) (aA (aQ (fun _=>kI T) hr.le (aA (aC 0) aF)) aF)))) aF))) (wV (fun _=>rfl) (aC 3) (lN (aC 6)) lJ)))))
    cE)))))
   (aT (aY (aC 3))))))
theorem lK(T:Txt K mg):Callee P w K mg base 1 "is_whole" tG (spM K dH):=
 T.v108.okG (N:=AL) (ps:=tG) (k:=0) (b:=sU) JC (by sleep 991) fun f cdv A outer s H E hr=>
  (aT (aY (dO (PL (T:="int") (fun _=>rfl) (by decide) (aC 0) (fun _=>aX) (fun _=>T.hB.of "isinstance") (fun _=>T.hB.of "int") boot_int) (fQ (MC (PL (T:="bool") (fun _=>rfl) (by decide) (aC 0) (fun _=>aX) (fun _=>T.hB.of "isinstance") (fun _=>T.hB.of "bool") boot_bool))))))
theorem EK(T:Txt K mg):Callee P w K mg base 1 "is_row" yP (spM K iQ):=
 T.v109.okG (N:=IM) (ps:=yP) (k:=0) (b:=AJ) UA (by sleep 991) fun f cdv A outer s H E hr=>
  (aT (aY (aAF (T:="list") (U:="tuple") (fun _=>rfl) (by decide) (by decide) (aC 0) (fun _=>aX) (fun _=>T.hB.of "isinstance") (fun _=>T.hB.of "list") (fun _=>T.hB.of "tuple") boot_list boot_tuple)))
theorem qC(T:Txt K mg):BS P w K mg base 1 "NoTie" lZ (spM K lQ):=
 T.v147.okIX (N:=rW) (ps:=lZ) (k:=0) (b:=rY) T.v83 T.v82 yM (by sleep 992) fun f cdv A outer s H E hr=>
  (aT (aCd (nm:="NoTie") (fun _=>rfl) T.v146 (aC 0) (aC 1)))
theorem RL(T:Txt K mg):Callee P w K mg base 1 "common" zO (spM K yN):=
 T.v110.okG (N:=HJ) (ps:=zO) (k:=0) (b:=KM) sc_common (by sleep 992) fun f cdv A outer s H E hr=>
  (aN (HM (fun _=>O9) (aGO (fun _=>rfl) (aC 1)) (aT (VQ 0 1 (fun _=>rfl) (fun _=>sc_common.nd) (aA (aC 1) (aA (bA oH (aC 0) (aC 1)) aF)))))
   (aT (aY (aC 0))))
theorem uP(T:Txt K mg):Callee P w K mg base 2 "is_row_of" pN (spM K dE):=
 T.v111.okG (N:=xB) (ps:=pN) (k:=1) (b:=lD) GP (by sleep 992) fun f cdv A outer s H E hr=>
  (aT (aY (dO (aQ (fun _=>EK T) hr.le (aA (aC 0) aF)) (fQ (gQ (oP (fun _=>rfl) (fun _=>hr.units)) (bH EC (fun _=>T.hB.of "len") boot_len (aA (aC 0) aF)) (aC 1))))))
theorem oS(T:Txt K mg):Callee P w K mg base 3 "has_amount_numbers" fE (spM K bB):=
 T.v112.okG (N:=iL) (ps:=fE) (k:=2) (b:=bL) oU (by sleep 991) fun f cdv A outer s H E hr=>
  (aN (eW (NC (qJ (gY (gX (aQ (fun _=>uP T) hr.le (aA (aC 0) (aA aE aF))))) (qJ (gY (gX (aQ (fun _=>lK T) hr.le (aA (bE cM (aC 0) aE) aF)))) (sV (gY (gX (aQ (fun _=>lK T) hr.le (aA (bE cM (aC 0) aE) aF))))))))
   (aT (aY eN))
   cE)
   (aT (aY (dO (gQ aIg (bE cM (aC 0) aE) aE) (fQ (gQ aIg (bE cM (aC 0) aE) aE))))))
theorem zB(T:Txt K mg):Callee P w K mg base 4 "is_in_parts" lT (spM K cA):=
 T.v113.okG (N:=rR) (ps:=lT) (k:=3) (b:=dF) xZ (by sleep 991) fun f cdv A outer s H E hr=>
  (aT (aY (dO (aQ (fun _=>oS T) hr.le (aA (aC 0) aF)) (dO (gQ (oP (fun _=>rfl) (fun _=>hr.units)) (bA oH (yH (fun _=>T.v151)) (bE cM (aC 0) aE)) aE) (fQ (gQ (oP (fun _=>rfl) (fun _=>hr.units)) (aQ (fun _=>RL T) hr.le (aA (bE cM (aC 0) aE) (aA (bE cM (aC 0) aE) aF))) aE))))))
theorem uG(T:Txt K mg):Callee P w K mg base 5 "is_weight" pZ (spM K cD):=
 T.v114.okG (N:=wJ) (ps:=pZ) (k:=4) (b:=gN) ER (by sleep 991) fun f cdv A outer s H E hr=>
  (aT (aY (dO (aQ (fun _=>zB T) hr.le (aA (aC 0) aF)) (fQ (gQ YF (bE cM (aC 0) aE) (yH (fun _=>T.v150)))))))
theorem xA(T:Txt K mg):Callee P w K mg base 2 "is_place" sH (spM K eS):=
 T.v115.okG (N:=BK) (ps:=sH) (k:=1) (b:=kM) JD (by sleep 992) fun f cdv A outer s H E hr=>
  (aT (aY (dO (aQ (fun _=>lK T) hr.le (aA (aC 1) aF)) (fQ (KR YF CP aE (aC 1) (aC 0))))))
theorem iP(T:Txt K mg):Callee P w K mg base 3 "are_unlike_places" fM (spM K bD):=
 T.v116.okG (N:=jB) (ps:=fM) (k:=2) (b:=cB) pT (by sleep 993) fun f cdv A outer s H E hr=>
  (aT (aY (dO (aQ (fun _=>xA T) hr.le (aA (aC 0) (aA (aC 1) aF))) (dO (aQ (fun _=>xA T) hr.le (aA (aC 0) (aA (aC 2) aF))) (fQ (gQ (FG (fun _=>rfl) (fun _=>hr.units)) (aC 1) (aC 2)))))))
theorem qS(T:Txt K mg):Callee P w K mg base 4 "is_between_places" fL (spM K dJ):=
 T.v117.okG (N:=jA) (ps:=fL) (k:=3) (b:=fK) qT (by sleep 992) fun f cdv A outer s H E hr=>
  (aT (aY (dO (aQ (fun _=>uP T) hr.le (aA (aC 1) (aA aE aF))) (dO (aQ (fun _=>iP T) hr.le (aA (aC 0) (aA (bE cM (aC 1) aE) (aA (bE cM (aC 1) aE) aF)))) (fQ (gQ CP (bE cM (aC 1) aE) (bE cM (aC 1) aE)))))))
theorem RO(T:Txt K mg):Callee P w K mg base 6 "is_tie" BA (spM K qO):=
 T.v118.okG (N:=IU) (ps:=BA) (k:=5) (b:=BI) SR (by sleep 992) fun f cdv A outer s H E hr=>
  (aT (aY (dO (aQ (fun _=>qS T) hr.le (aA (aC 0) (aA (aC 1) aF))) (fQ (aQ (fun _=>uG T) hr.le (aA (bE cM (aC 1) aE) aF))))))
theorem GX(T:Txt K mg):jC P w K mg base 7 "kept_ties" qF (spX K iV):=
 T.v119.okX (N:=qA) (ps:=qF) (k:=6) (b:=qV) sc_kept_ties (by sleep 992) fun f cdv A outer s H E hr=>
  (eT (BN (gY (gX (aQ (fun _=>EK T) hr.le (aA (aC 1) aF))))
   (jF (BR (fun i=>rP i) (fun _=>qC T) (fun _=>rfl) (fun _=>rfl) (fun _=>T.v136) T.v137.c.be hr.le (aA aE aF)))
   (qB cE))
   (eT (FT (bG 2 (fun _=>sc_kept_ties.nd) WQ))
   (eT (XD (fun i=>rP i) (fun _=>rfl) (fun _=>rfl) (fun _=>T.hB.of "enumerate") (aA (aC 1) aF) (cO (bO 3 (fun _=>sc_kept_ties.nd)) (cO (bO 4 (fun _=>sc_kept_ties.nd)) nA))
    (eT (BN (NC (qJ (gY (gX (aQ (fun _=>RO T) hr.le (aA (aC 0) (aA (aC 4) aF))))) (sV (aGP (fun _=>hr.u1) (BE (aA (bE cM (aC 4) aE) (aA (bE cM (aC 4) aE) aF))) (aC 2)))))
    (jF (BR (fun i=>rP i) (fun _=>qC T) (fun _=>rfl) (fun _=>rfl) (fun _=>T.v136) T.v137.c.be hr.le (aA (aC 3) aF)))
    (qB cE))
   (qB (aT (PZ (fun _=>hr.u1) (aC 2) (BE (aA (bE cM (aC 4) aE) (aA (bE cM (aC 4) aE) aF))) (jN (xU (fun _=>rfl)) (fun _=>T.hB.of "tuple") boot_tuple (aA (bE cM (aC 4) aE) aF)))))))
   (qB (aT (aY (jN (xU (fun _=>rfl)) (fun _=>T.hB.of "tuple") boot_tuple (aA (QD (N':=(["i","j","weight"]:List Str)) (cap:=[none,none,none]) (fun _=>rfl) (fun _=>jH (sc0:=aH jE) (N:=qA) rfl rfl (by decide +kernel)) (oW (fun _=>rfl) (ZX (fun _=>rfl) (fun _=>hr.units2) (fun _=>rfl) (fun _=>T.hB.of "sorted") (aC 2))) (vK (fun _=>rfl) (fun _=>rfl) (cO (vK (fun _=>rfl) (fun _=>rfl) (cO (bO 0 (fun _=>(show(["i","j","weight"]:List Str).Nodup by decide +kernel))) (cO (bO 1 (fun _=>(show(["i","j","weight"]:List Str).Nodup by decide +kernel))) nA))) (cO (bO 2 (fun _=>(show(["i","j","weight"]:List Str).Nodup by decide +kernel))) nA))) (GO (bX aFr (bE cM (aC 2) aE) aE)) (aZ (aA (aC 0) (aA (aC 1) (aA (aC 2) aF))))) aF))))))))
theorem uA(T:Txt K mg):uB P w K mg base 8 "Web" qI (spX K fB):=
 T.v148.okR (N:=pS) (ps:=qI) (k:=7) (b:=oY) T.v95 T.v96 T.v138 FD (by sleep 993) fun f cdv A outer s H E hr=>
  (eT (BN (NC (qJ (gY (gX (aQ (fun _=>lK T) hr.le (aA (aC 1) aF)))) (qJ (bX CP (aC 1) aE) (sV (bX aFr (aC 1) (yH (fun _=>T.v152)))))))
   (jF (sS (fun i=>rP i) (fun _=>rfl) (fun _=>rfl) (fun _=>T.v135) T.v19))
   (qB cE))
   (eT (FT (WU (nm:="Web") (fun _=>rfl) T.v139 T.v35 (aC 0) (aC 1)))
   (eT (aCf (nm:="Web") (fun _=>rfl) T.v139 T.v34 (aC 0) (xT (fun i=>rP i) (fun _=>GX T) hr.le (yL (aA (aC 1) (aA (aC 2) aF)))))
   (qB (aT (WU (nm:="Web") (fun _=>rfl) T.v139 T.v89 (aC 0) (aES (N':=(["i","j","weight"]:List Str)) (cap:=[none,none,none]) (fun _=>hr.u0) (fun _=>rfl) (fun _=>jH (sc0:=aH fH) (N:=pS) rfl rfl (by decide +kernel)) (oW (fun _=>rfl) (jW (nm:="Web") (fun _=>rfl) T.v139 T.v34 (aC 0))) (vK (fun _=>rfl) (fun _=>rfl) (cO (bO 0 (fun _=>(show(["i","j","weight"]:List Str).Nodup by decide +kernel))) (cO (bO 1 (fun _=>(show(["i","j","weight"]:List Str).Nodup by decide +kernel))) (cO (bO 2 (fun _=>(show(["i","j","weight"]:List Str).Nodup by decide +kernel))) nA)))) zR (BE (aA (aC 0) (aA (aC 1) aF))) (aC 2))))))))
theorem wK(T:Txt K mg):FK P w K mg base 1 "Web" "tie" tJ (spM K eU):=
 T.v149.okM (N:=AS) (ps:=tJ) (k:=0) (b:=tH) HQ (by sleep 993) fun f cdv A outer s H E hr=>
  (aT (aY (UL (fun _=>hr.u1) (jW (nm:="Web") (fun _=>rfl) T.v139 T.v89 (aC 0)) (BE (aA (bH (yO (fun _=>rfl)) (fun _=>T.hB.of "min") boot_min (aA (aC 1) (aA (aC 2) aF))) (aA (bH (yI (fun _=>rfl)) (fun _=>T.hB.of "max") boot_max (aA (aC 1) (aA (aC 2) aF))) aF))) (aZ (aA aE (aA aE aF))) (fun _=>jJ) (fun _=>jJ))))
theorem wX(T:Txt K mg):Callee P w K mg base 1 "_law_due" tF (spM K gG):=
 T.v120.okG (N:=sZ) (ps:=tF) (k:=0) (b:=sW) JB (by sleep 991) fun f cdv A outer s H E hr=>
  (aT (aY (jN (xU (fun _=>rfl)) (fun _=>T.hB.of "tuple") boot_tuple (aA (bH (aBb (fun _=>rfl) (fun _=>hr.units2)) (fun _=>T.hB.of "sorted") boot_sorted (aA (QD (N':=(["_law_one"]:List Str)) (cap:=[none]) (fun _=>rfl) (fun _=>jH (sc0:=aH kW) (N:=sZ) rfl rfl (by decide +kernel)) (oW (fun _=>rfl) (aC 0)) (bO 0 (fun _=>(show(["_law_one"]:List Str).Nodup by decide +kernel))) (GO (bX (FG (fun _=>rfl) (fun _=>hr.units)) (bE cM (aC 0) aE) (aZ (aA aE (aA aE aF))))) (aC 0)) aF)) aF))))
theorem mQ(T:Txt K mg):jC P w K mg base 4 "refuse_no_two_places" dZ (spX K bN):=
 T.v121.okX (N:=gT) (ps:=dZ) (k:=3) (b:=cT) mI (by sleep 993) fun f cdv A outer s H E hr=>
  (jF (BN (gY (gX (aQ (fun _=>iP T) hr.le (aA (aC 0) (aA (aC 1) (aA (aC 2) aF))))))
   (jF (sS (fun i=>rP i) (fun _=>rfl) (fun _=>rfl) (fun _=>T.v135) T.v19))
   (qB cE)))
theorem rM(T:Txt K mg):jC P w K mg base 6 "refuse_no_change" gK (spX K cI):=
 T.v122.okX (N:=jO) (ps:=gK) (k:=5) (b:=eA) rO (by sleep 994) fun f cdv A outer s H E hr=>
  (eT (HW (xT (fun i=>rP i) (fun _=>mQ T) hr.le (yL (aA (jW (nm:="Web") (fun _=>rfl) T.v139 T.v35 (aC 0)) (aA (aC 1) (aA (aC 2) aF))))))
   (jF (BN (gY (gX (aQ (fun _=>uG T) hr.le (aA (aC 3) aF))))
    (jF (sS (fun i=>rP i) (fun _=>rfl) (fun _=>rfl) (fun _=>T.v140) T.v37))
    (qB cE))))
theorem nF(T:Txt K mg):jC P w K mg base 10 "changed" vW (spX K eI):=
 T.v123.okX (N:=vN) (ps:=vW) (k:=9) (b:=rF) sc_changed (by sleep 994) fun f cdv A outer s H E hr=>
  (eT (HW (xT (fun i=>rP i) (fun _=>rM T) hr.le (yL (aA (aC 0) (aA (aC 1) (aA (aC 2) (aA (aC 3) aF)))))))
   (eT (FT (AQ (aZ (aA (bH (yO (fun _=>rfl)) (fun _=>T.hB.of "min") boot_min (aA (aC 1) (aA (aC 2) aF))) (aA (bH (yI (fun _=>rfl)) (fun _=>T.hB.of "max") boot_max (aA (aC 1) (aA (aC 2) aF))) aF))) (vK (fun _=>rfl) (fun _=>rfl) (cO (bO 4 (fun _=>sc_changed.nd)) (cO (bO 5 (fun _=>sc_changed.nd)) nA)))))
   (eT (FT (JL 6 (fun _=>sc_changed.nd) (N':=(["low","high","row"]:List Str)) (cap:=[some 4,some 5,none]) (fun _=>rfl) (fun _=>jH (sc0:=aH nX) (N:=vN) rfl rfl (by decide +kernel)) (oW (fun _=>rfl) (jW (nm:="Web") (fun _=>rfl) T.v139 T.v34 (aC 0))) (bO 2 (fun _=>(show(["low","high","row"]:List Str).Nodup by decide +kernel))) (GO (bX (FG (fun _=>rfl) (fun _=>hr.units)) (aZ (aA (bE cM (aC 2) aE) (aA (bE cM (aC 2) aE) aF))) (aZ (aA (aC 0) (aA (aC 1) aF))))) (aC 2)))
   (jF (aBo (aBN (fun i=>rP i) (fun _=>uA T) (fun _=>rfl) hr.le (aA (jW (nm:="Web") (fun _=>rfl) T.v139 T.v35 (aC 0)) (aA (bA (aGy (fun _=>rfl)) (aC 6) (NX (aA (aBL (aA (aC 4) (aA (aC 5) (aA (aC 3) aF)))) aF))) aF))))))))
theorem CO(T:Txt K mg):Callee P w K mg base 11 "_law_right" mZ (spM K jG):=
 T.v124.okG (N:=jD) (ps:=mZ) (k:=10) (b:=nN) sc__law_right (by sleep 995) fun f cdv A outer s H E hr=>
  (aN (bG 5 (fun _=>sc__law_right.nd) (aIy (N':=(["_law_one"]:List Str)) (cap:=[none]) (fun _=>rfl) (fun _=>hr.units2) (fun _=>rfl) (fun _=>T.hB.of "dict") (fun _=>jH (sc0:=aH fU) (N:=jD) rfl rfl (by decide +kernel)) (oW (fun _=>rfl) (aC 1)) (bO 0 (fun _=>(show(["_law_one"]:List Str).Nodup by decide +kernel))) zR (aA (bE cM (aC 0) aE) (aA (bE cM (aC 0) aE) aF)) (bE cM (aC 0) aE) (fun _=>BG)))
   (aN (aCX 5 (PZ (fun _=>hr.u1) (aC 5) (BE (aA (bH (yO (fun _=>rfl)) (fun _=>T.hB.of "min") boot_min (aA (aC 2) (aA (aC 3) aF))) (aA (bH (yI (fun _=>rfl)) (fun _=>T.hB.of "max") boot_max (aA (aC 2) (aA (aC 3) aF))) aF))) (aC 4)))
   (aN (bG 6 (fun _=>sc__law_right.nd) (bH (mX (fun _=>rfl) (fun _=>hr.gd) (fun _=>hr.u200)) (fun _=>T.hB.of "repr") boot_repr (aA (aZ (aA (jW (nm:="Web") (fun _=>rfl) T.v139 T.v35 (aC 0)) (aA (aQ (fun _=>wX T) hr.le (aA (QD (N':=(["_law_own","_law_places"]:List Str)) (cap:=[some 5,none]) (fun _=>rfl) (fun _=>jH (sc0:=aH fU) (N:=jD) rfl rfl (by decide +kernel)) (aCT (aC 5)) (bO 1 (fun _=>(show(["_law_own","_law_places"]:List Str).Nodup by decide +kernel))) zR (aZ (aA (bE cM (aC 1) aE) (aA (bE cM (aC 1) aE) (aA (aCn (fun _=>hr.u1) (aC 0) (aIK (aC 1))) aF))))) aF)) aF))) aF)))
   (aN (bG 7 (fun _=>sc__law_right.nd) (jN (aBE (fun _=>rfl)) (fun _=>T.hB.of "list") boot_list (aA (aC 4) aF)))
   (aN (bG 8 (fun _=>sc__law_right.nd) (vZ (fun _=>nF T) hr.le (aA (aC 0) (aA (aC 2) (aA (aC 3) (aA (aC 4) aF))))))
   (aN (bG 9 (fun _=>sc__law_right.nd) (vZ (fun _=>nF T) hr.le (aA (aC 0) (aA (aC 3) (aA (aC 2) (aA (aC 7) aF))))))
   (aN (eW (bX (aHS (fun _=>rfl) (fun _=>hr.units)) (aC 7) (jN (aGL (fun _=>rfl)) (fun _=>T.hB.of "list") boot_list (aA (aC 4) aF)))
    (aT (aY eN))
    cE)
   (aN (AQ aE (LB aAu (aC 7) aE))
   (aN (OI (DI (fun _=>rfl) (aC 7) (aA aE aF)))
   (aN (eW (NC (qJ (bX (FG (fun _=>rfl) (fun _=>hr.units)) (bH (mX (fun _=>rfl) (fun _=>hr.gd) (fun _=>hr.u200)) (fun _=>T.hB.of "repr") boot_repr (aA (aZ (aA (jW (nm:="Web") (fun _=>rfl) T.v139 T.v35 (aC 8)) (aA (jW (nm:="Web") (fun _=>rfl) T.v139 T.v34 (aC 8)) aF))) aF)) (aC 6)) (sV (bX (FG (fun _=>rfl) (fun _=>hr.units)) (bH (mX (fun _=>rfl) (fun _=>hr.gd) (fun _=>hr.u200)) (fun _=>T.hB.of "repr") boot_repr (aA (aZ (aA (jW (nm:="Web") (fun _=>rfl) T.v139 T.v35 (aC 9)) (aA (jW (nm:="Web") (fun _=>rfl) T.v139 T.v34 (aC 9)) aF))) aF)) (aC 6)))))
    (aT (aY eN))
    cE)
   (aT (aY (dO (gQ (oP (fun _=>rfl) (fun _=>hr.units)) (bH (mX (fun _=>rfl) (fun _=>hr.gd) (fun _=>hr.u200)) (fun _=>T.hB.of "repr") boot_repr (aA (QU (nm:="Web") (fun _=>wK T) (fun _=>rfl) T.v139 hr.le (aC 8) (aA (aC 3) (aA (aC 2) aF))) aF)) (bH (mX (fun _=>rfl) (fun _=>hr.gd) (fun _=>hr.u200)) (fun _=>T.hB.of "repr") boot_repr (aA (aC 4) aF))) (fQ (gQ (oP (fun _=>rfl) (fun _=>hr.units)) (bH (mX (fun _=>rfl) (fun _=>hr.gd) (fun _=>hr.u200)) (fun _=>T.hB.of "repr") boot_repr (aA (jW (nm:="Web") (fun _=>rfl) T.v139 T.v34 (aC 0)) aF)) (bH (mX (fun _=>rfl) (fun _=>hr.gd) (fun _=>hr.u200)) (fun _=>T.hB.of "repr") boot_repr (aA (aQ (fun _=>wX T) hr.le (aA (aC 1) aF)) aF)))))))))))))))))
theorem qM(T:Txt K mg):∀n:Nat,Callee P w K mg base (n+2) "_law_any" nV (spM K (gL n))
 |0=>(T.v125.okNone (N:=mV) (ps:=nV) (k:=1) sc__law_any (by intro _ _ _ _ _ _ _ hl;apply ar3 hl;intros;rfl)).mono (by decide)
 |n+1=>(T.v125.okG (N:=mV) (ps:=nV) (k:=n+2) (b:=cP (gL n)) sc__law_any (by sleep 993) fun f cdv A outer s H E hr=>
  (aN (bG 3 (fun _=>sc__law_any.nd) (aQ (fun _=>aW T) (fun _=>hr.mono (by omega)) (aA (aC 0) (aA (bA zI aE (bA JW aE (jN aIl (fun _=>T.hB.of "int") boot_int (aA (gQ (oP (fun _=>rfl) (fun _=>hr.units)) (aC 2) aE) aF)))) aF))))
   (aN (eW (bX (oP (fun _=>rfl) (fun _=>hr.units)) (aC 3) aE)
    (aT (aY (aHV (bX (FG (fun _=>rfl) (fun _=>hr.units)) (aC 1) (gV aF)) (bA zI (bA oH (bE cM (aC 1) aE) (bA sE aE aE)) (bA sE aE aE)) (JO JK aE))))
    cE)
   (aN (eW (bX (oP (fun _=>rfl) (fun _=>hr.units)) (aC 3) aE)
    (aT (aY (bE cM (gV (aA aE (aA aE (aA aE (aA aE (aA (JO JK aE) (aA aE (aA aE aF)))))))) (aQ (fun _=>aW T) (fun _=>hr.mono (by omega)) (aA (aC 0) (aA aE aF))))))
    cE)
   (aN (eW (bX (oP (fun _=>rfl) (fun _=>hr.units)) (aC 3) aE)
    (aT (aY (bE cM (gV (aA eN (aA eN (aA vG aF)))) (aQ (fun _=>aW T) (fun _=>hr.mono (by omega)) (aA (aC 0) (aA aE aF))))))
    cE)
   (aN (eW (bX CP (aC 3) aE)
    (aT (aY (bE cM (gV (aA fR (aA fR (aA fR (aA fR (aA fR (aA fR aF))))))) (aQ (fun _=>aW T) (fun _=>hr.mono (by omega)) (aA (aC 0) (aA aE aF))))))
    cE)
   (aN (JL 4 (fun _=>sc__law_any.nd) (N':=(["_law_stream_here","_law_script","_law_depth","_law_k"]:List Str)) (cap:=[some 0,some 1,some 2,none]) (fun _=>rfl) (fun _=>jH (sc0:=aH lM) (N:=mV) rfl rfl (by decide +kernel)) (tU (fun _=>T.hB.of "range") (aA (aQ (fun _=>aW T) (fun _=>hr.mono (by omega)) (aA (aC 0) (aA aE aF))) aF)) (bO 3 (fun _=>(show(["_law_stream_here","_law_script","_law_depth","_law_k"]:List Str).Nodup by decide +kernel))) zR (aQ (fun _=>qM T n) (fun _=>hr.mono (by omega)) (aA (aC 0) (aA (aC 1) (aA (bA zI (aC 2) aE) aF)))))
   (aN (eW (bX (oP (fun _=>rfl) (fun _=>hr.units)) (aC 3) aE)
    (aT (aY (jN (xU (fun _=>rfl)) (fun _=>T.hB.of "tuple") boot_tuple (aA (aC 4) aF))))
    cE)
   (aN (eW (bX (oP (fun _=>rfl) (fun _=>hr.units)) (aC 3) aE)
    (aT (aY (aC 4)))
    cE)
   (aT (aY (aCs (PB aE (aC 4) (PB fR vG aFu)))))))))))))).mono (by omega)
theorem FF(T:Txt K mg):Callee P w K mg base 2 "_law_bent" qD (spM K eZ):=
 T.v126.okG (N:=wY) (ps:=qD) (k:=1) (b:=iN) sc__law_bent (by sleep 992) fun f cdv A outer s H E hr=>
  (aN (bG 2 (fun _=>sc__law_bent.nd) (aQ (fun _=>aW T) hr.le (aA (aC 0) (aA (bH EC (fun _=>T.hB.of "len") boot_len (aA (aC 1) aF)) aF))))
   (aN (bG 3 (fun _=>sc__law_bent.nd) (aQ (fun _=>aW T) hr.le (aA (aC 0) (aA aE aF))))
   (aN (eW (bX (oP (fun _=>rfl) (fun _=>hr.units)) (aC 3) aE)
    (aT (aY (bA fJ (wV (fun _=>rfl) (aC 1) lJ (lN (aC 2))) (wV (fun _=>rfl) (aC 1) (lN (bA fJ (aC 2) aE)) lJ))))
    cE)
   (aN (eW (bX (oP (fun _=>rfl) (fun _=>hr.units)) (aC 3) aE)
    (aT (aY (bA fJ (bA fJ (wV (fun _=>rfl) (aC 1) lJ (lN (aC 2))) (aZ (aA (bE cM (aC 1) (aC 2)) aF))) (wV (fun _=>rfl) (aC 1) (lN (aC 2)) lJ))))
    cE)
   (aN (bG 4 (fun _=>sc__law_bent.nd) (gV (aA vG (aA eN (aA eN (aA (JO JK aE) (aA aE (aA aE (aA aE (aA (bA fJ (bA sE aE aE) aE) (aA fR (aA fR (aA (aZ aF) (aA (aZ (aA aE (aA aE aF))) (aA (aZ (aA aE (aA aE aF))) (aA (aZ (aA aE (aA aE aF))) (aA (aZ (aA aE (aA aE aF))) (aA VH aF))))))))))))))))))
   (aT (aY (bA fJ (bA fJ (wV (fun _=>rfl) (aC 1) lJ (lN (aC 2))) (aZ (aA (bE cM (aC 4) (aQ (fun _=>aW T) hr.le (aA (aC 0) (aA aE aF)))) aF))) (wV (fun _=>rfl) (aC 1) (lN (bA fJ (aC 2) aE)) lJ)))))))))
theorem HF(T:Txt K mg):Callee P w K mg base 7 "_law_odd" tI (spM K nR):=
 T.v127.okG (N:=BB) (ps:=tI) (k:=6) (b:=sL) sc__law_odd (by sleep 993) fun f cdv A outer s H E hr=>
  (aN (bG 3 (fun _=>sc__law_odd.nd) (gV (aA (aC 2) (aA (JO JK aE) (aA eN (aA vG (aA fR (aA (aZ (aA aE aF)) (aA (bA sE aE aE) (aA aE (aA (aQ (fun _=>qM T 4) hr.le (aA (aC 0) (aA (aC 1) (aA aE aF)))) aF)))))))))))
   (aN (bG 4 (fun _=>sc__law_odd.nd) (gV (aA (aZ (aA aE (aA aE aF))) (aA (aZ (aA aE (aA aE aF))) (aA (aZ (aA aE (aA aE aF))) (aA (aZ (aA (bA fJ (bA sE aE aE) aE) (aA aE aF))) (aA aE (aA vG (aA eN (aA (aZ aF) (aA (aZ (aA (JO JK aE) (aA aE aF))) (aA (aQ (fun _=>qM T 4) hr.le (aA (aC 0) (aA (aC 1) (aA aE aF)))) aF))))))))))))
   (aT (aY (aZ (aA (aQ (fun _=>nQ T) hr.le (aA (aC 0) (aA (aC 3) aF))) (aA (aQ (fun _=>nQ T) hr.le (aA (aC 0) (aA (aC 4) aF))) (aA (aQ (fun _=>FF T) hr.le (aA (aC 0) (aA (aQ (fun _=>kI T) hr.le (aA (aC 0) aF)) aF))) aF))))))))
theorem xF(T:Txt K mg):Callee P w K mg base 11 "_law_refused" kN (spM K dM):=
 T.v128.okG (N:=oV) (ps:=kN) (k:=10) (b:=fA) sc__law_refused (by sleep 994) fun f cdv A outer s H E hr=>
  (aN (bG 4 (fun _=>sc__law_refused.nd) vG)
   (aN (aGf (fun _=>⟨rfl,rfl,rfl⟩) (fun _=>rfl) (jF (aCA 4 (fun _=>sc__law_refused.nd) (aGa (max_cons (aIo fR) (max_cons (aFA (nm:="Web") (fun _=>rfl) T.v139 T.v35 (xT (fun i=>aHf (fun _=>⟨rfl,rfl,rfl⟩) i) (fun _=>nF T) hr.le (yL (aA (aC 0) (aA (aC 1) (aA (aC 2) (aA (aC 3) aF))))))) (yL aF)))))) (OJ (tab:=[("NoPlace",true),("NoTie",false),("NoWeight",false)]) (n:=(some 5)) (.ref (aR K "NoPlace")) (fun _=>⟨rfl,rfl,rfl⟩) (fun _=>.inl T.v135) (fun _=>⟨sc__law_refused.nd,rfl,rfl⟩) (jI T.v74 (jI T.v73 (jI T.v72 KJ))) (aN (bG 4 (fun _=>sc__law_refused.nd) (aZ (aA fR (aA (dO (fY (tab:=dR) (nn:=some false) (c:=(.ref (aR K "CutError"))) (fun _=>rfl) (.own _) (lY (fun _=>T.v143)) (gE (fZ T) T.v62 rfl) (gA T.v63) (aC 5) (fun _=>aX) (fun _=>T.hB.of "isinstance")) (fQ (fY (tab:=cV) (nn:=some false) (c:=(.type "ValueError")) (fun _=>rfl) (.ty _) (aDN (fun _=>T.hB.of "ValueError") oG) (gE (fZ T) T.v59 rfl) (gA T.v60) (aC 5) (fun _=>aX) (fun _=>T.hB.of "isinstance")))) (aA (fY (tab:=iS) (nn:=some false) (c:=(.ref (aR K "NoWeight"))) (fun _=>rfl) (.own _) (lY (fun _=>T.v140)) (gE (fZ T) T.v75 rfl) (gA T.v76) (aC 5) (fun _=>aX) (fun _=>T.hB.of "isinstance")) aF)))))
   (aT (bG 4 (fun _=>sc__law_refused.nd) (bA fJ (aC 4) (aZ (aA (fY (tab:=iU) (nn:=some false) (c:=(.ref (aR K "NoTie"))) (fun _=>rfl) (.own _) (lY (fun _=>T.v136)) (gE (fZ T) T.v70 rfl) (gA T.v71) (aC 5) (fun _=>aX) (fun _=>T.hB.of "isinstance")) (aA (fY (tab:=fF) (nn:=some false) (c:=(.ref (aR K "TooMany"))) (fun _=>rfl) (.own _) (lY (fun _=>T.v145)) (gE (fZ T) T.v68 rfl) (gA T.v69) (aC 5) (fun _=>aX) (fun _=>T.hB.of "isinstance")) (aA (fY (tab:=gO) (nn:=some false) (c:=(.ref (aR K "NoLine"))) (fun _=>rfl) (.own _) (lY (fun _=>T.v144)) (gE (fZ T) T.v65 rfl) (gA T.v66) (aC 5) (fun _=>aX) (fun _=>T.hB.of "isinstance")) aF))))))))
   (OJ (tab:=[("NoPlace",false),("NoTie",false),("NoWeight",true)]) (n:=(some 5)) (.ref (aR K "NoWeight")) (fun _=>⟨rfl,rfl,rfl⟩) (fun _=>.inl T.v140) (fun _=>⟨sc__law_refused.nd,rfl,rfl⟩) (jI T.v40 (jI T.v39 (jI T.v38 KJ))) (aN (bG 4 (fun _=>sc__law_refused.nd) (aZ (aA fR (aA (dO (fY (tab:=dR) (nn:=some false) (c:=(.ref (aR K "CutError"))) (fun _=>rfl) (.own _) (lY (fun _=>T.v143)) (gE (fZ T) T.v62 rfl) (gA T.v63) (aC 5) (fun _=>aX) (fun _=>T.hB.of "isinstance")) (fQ (fY (tab:=cV) (nn:=some false) (c:=(.type "ValueError")) (fun _=>rfl) (.ty _) (aDN (fun _=>T.hB.of "ValueError") oG) (gE (fZ T) T.v59 rfl) (gA T.v60) (aC 5) (fun _=>aX) (fun _=>T.hB.of "isinstance")))) (aA (fY (tab:=kB) (nn:=some false) (c:=(.ref (aR K "NoPlace"))) (fun _=>rfl) (.own _) (lY (fun _=>T.v135)) (gE (fZ T) T.v57 rfl) (gA T.v58) (aC 5) (fun _=>aX) (fun _=>T.hB.of "isinstance")) aF)))))
   (aT (bG 4 (fun _=>sc__law_refused.nd) (bA fJ (aC 4) (aZ (aA (fY (tab:=iU) (nn:=some false) (c:=(.ref (aR K "NoTie"))) (fun _=>rfl) (.own _) (lY (fun _=>T.v136)) (gE (fZ T) T.v70 rfl) (gA T.v71) (aC 5) (fun _=>aX) (fun _=>T.hB.of "isinstance")) (aA (fY (tab:=fF) (nn:=some false) (c:=(.ref (aR K "TooMany"))) (fun _=>rfl) (.own _) (lY (fun _=>T.v145)) (gE (fZ T) T.v68 rfl) (gA T.v69) (aC 5) (fun _=>aX) (fun _=>T.hB.of "isinstance")) (aA (fY (tab:=gO) (nn:=some false) (c:=(.ref (aR K "NoLine"))) (fun _=>rfl) (.own _) (lY (fun _=>T.v144)) (gE (fZ T) T.v65 rfl) (gA T.v66) (aC 5) (fun _=>aX) (fun _=>T.hB.of "isinstance")) aF))))))))
   aGK)))
   (aT (aY (aC 4)))))
theorem mR(T:Txt K mg):Callee P w K mg base 1 "_law_is_whole" iW (spM K eC):=
 T.v129.okG (N:=oE) (ps:=iW) (k:=0) (b:=iY) vA (by sleep 993) fun f cdv A outer s H E hr=>
  (aT (aY (dO (vO (T:="int") (fun _=>rfl) (by decide) (aC 0) (fun _=>aX) (fun _=>T.hB.of "isinstance") (fun _=>T.hB.of "int") boot_int) (dO (MC (vO (T:="bool") (fun _=>rfl) (by decide) (aC 0) (fun _=>aX) (fun _=>T.hB.of "isinstance") (fun _=>T.hB.of "bool") boot_bool)) (fQ (KR YF YF (aC 1) (aC 0) (aC 2)))))))
theorem BD(T:Txt K mg):Callee P w K mg base 1 "_law_is_row" lR (spM K iH):=
 T.v130.okG (N:=sD) (ps:=lR) (k:=0) (b:=rQ) yG (by sleep 991) fun f cdv A outer s H E hr=>
  (aT (aY (aHY (vO (T:="list") (fun _=>rfl) (by decide) (aC 0) (fun _=>aX) (fun _=>T.hB.of "isinstance") (fun _=>T.hB.of "list") boot_list) (fQ (vO (T:="tuple") (fun _=>rfl) (by decide) (aC 0) (fun _=>aX) (fun _=>T.hB.of "isinstance") (fun _=>T.hB.of "tuple") boot_tuple)))))
theorem uF(T:Txt K mg):Callee P w K mg base 2 "_law_is_amount" iE (spM K bI):=
 T.v131.okG (N:=iC) (ps:=iE) (k:=1) (b:=bU) uR (by sleep 991) fun f cdv A outer s H E hr=>
  (aN (eW (NC (qJ (gY (gX (aQ (fun _=>BD T) hr.le (aA (aC 0) aF)))) (sV (bX (FG (fun _=>rfl) (fun _=>hr.units)) (bH EC (fun _=>T.hB.of "len") boot_len (aA (aC 0) aF)) aE))))
   (aT (aY eN))
   cE)
   (aN (eW (NC (qJ (gY (gX (bH (aHl (fun _=>rfl) (fun _=>rfl)) (fun _=>T.hB.of "all") boot_all (aA (QD (N':=(["_law_one"]:List Str)) (cap:=[none]) (fun _=>rfl) (fun _=>jH (sc0:=aH eL) (N:=iC) rfl rfl (by decide +kernel)) (oW (fun _=>rfl) (aC 0)) (bO 0 (fun _=>(show(["_law_one"]:List Str).Nodup by decide +kernel))) zR (dO (vO (T:="int") (fun _=>rfl) (by decide) (aC 0) (fun _=>aX) (fun _=>T.hB.of "isinstance") (fun _=>T.hB.of "int") boot_int) (fQ (MC (vO (T:="bool") (fun _=>rfl) (by decide) (aC 0) (fun _=>aX) (fun _=>T.hB.of "isinstance") (fun _=>T.hB.of "bool") boot_bool))))) aF)))) (qJ (bX CP (bE cM (aC 0) aE) aE) (sV (bX CP (bE cM (aC 0) aE) aE)))))
    (aT (aY eN))
    cE)
   (aT (aY (gQ (oP (fun _=>rfl) (fun _=>hr.units)) (aQ (fun _=>sG T) hr.le (aA (bE cM (aC 0) aE) (aA (bE cM (aC 0) aE) aF))) (aZ (aA (bE cM (aC 0) aE) (aA (bE cM (aC 0) aE) aF))))))))
theorem uU(T:Txt K mg):Callee P w K mg base 3 "_law_is_weight" hX (spM K bV):=
 T.v132.okG (N:=mH) (ps:=hX) (k:=2) (b:=cW) tP (by sleep 991) fun f cdv A outer s H E hr=>
  (aT (aY (dO (aQ (fun _=>uF T) hr.le (aA (aC 0) aF)) (dO (gQ YF (bE cM (aC 0) aE) (bA sE aE aE)) (fQ (gQ (oP (fun _=>rfl) (fun _=>hr.units)) (bA oH aE (bE cM (aC 0) aE)) aE))))))
theorem EU(T:Txt K mg):Callee P w K mg base 4 "_law_told" pK (spM K dP):=
 T.v133.okG (N:=wL) (ps:=pK) (k:=3) (b:=eR) GB (by sleep 994) fun f cdv A outer s H E hr=>
  (aN (eW (NC (qJ (gY (gX (aQ (fun _=>mR T) hr.le (aA (aC 1) (aA aE (aA (bA zI (aC 0) aE) aF)))))) (qJ (gY (gX (aQ (fun _=>mR T) hr.le (aA (aC 2) (aA aE (aA (bA zI (aC 0) aE) aF)))))) (sV (bX (oP (fun _=>rfl) (fun _=>hr.units)) (aC 1) (aC 2))))))
   (aT (aY (aZ (aA fR (aA eN (aA eN (aA eN (aA eN (aA eN aF)))))))))
   cE)
   (aN (eW (gY (gX (aQ (fun _=>uU T) hr.le (aA (aC 3) aF))))
    (aT (aY (aZ (aA fR (aA eN (aA eN (aA eN (aA eN (aA eN aF)))))))))
    cE)
   (aT (aY (aZ (aA fR (aA (aC 0) aF)))))))
theorem fn_law(T:Txt K mg):∃f fd,mg "law"=some (.ref f)/\(∀(s:Shared)(u:Value),BindsTo s fd ⟨[u],[]⟩ [("_law_script",u)])/\∀base,gP P w K mg base CX0 12 f fd aDF (spM K F_law):=
 T.v134.okLG (N:=WT) (k:=11) (b:=VZ) sc_law rfl (by sleep 991) fun base f cdv A outer s H E hr=>
  (aN (zX (fun _=>O9) (fun _=>rfl) (tU (fun _=>T.hB.of "range") (aA aE aF)) (bO 1 (fun _=>sc_law.nd))
   (aN (bG 2 (fun _=>sc_law.nd) (aQ (fun _=>BP T) hr.le (aA (aC 0) (aA (aC 1) aF))))
   (aN (bG 3 (fun _=>sc_law.nd) (bA fJ aE (aQ (fun _=>aW T) hr.le (aA (aC 2) (aA aE aF)))))
   (aN (bG 4 (fun _=>sc_law.nd) (aQ (fun _=>EW T) hr.le (aA (aC 2) (aA (aC 3) aF))))
   (aN (bG 5 (fun _=>sc_law.nd) (UU (fun _=>uA T) (fun _=>rfl) hr.le (aA (aC 3) (aA (aC 4) aF))))
   (aT (zX (fun _=>O9) (fun _=>rfl) (tU (fun _=>T.hB.of "range") (aA aE aF)) (bO 6 (fun _=>sc_law.nd))
    (aN (bG 7 (fun _=>sc_law.nd) (aQ (fun _=>aW T) hr.le (aA (aC 2) (aA (aC 3) aF))))
   (aN (bG 8 (fun _=>sc_law.nd) (bA oH (bA fJ (bA fJ (aC 7) aE) (aQ (fun _=>aW T) hr.le (aA (aC 2) (aA (bA zI (aC 3) aE) aF)))) (aC 3)))
   (aN (bG 9 (fun _=>sc_law.nd) (bE cM (gV (aA (aQ (fun _=>kI T) hr.le (aA (aC 2) aF)) (aA (QU (nm:="Web") (fun _=>wK T) (fun _=>rfl) T.v139 hr.le (aC 5) (aA (aC 7) (aA (aC 8) aF))) (aA (aZ (aA aE (aA aE aF))) aF)))) (bA oH (aQ (fun _=>aW T) hr.le (aA (aC 2) (aA aE aF))) aE)))
   (aN (eW (gY (gX (aQ (fun _=>CO T) hr.le (aA (aC 5) (aA (aC 4) (aA (aC 7) (aA (aC 8) (aA (aC 9) aF))))))))
    (aT (aY eN))
    cE)
   (aN (bG 5 (fun _=>sc_law.nd) (vZ (fun _=>nF T) hr.le (aA (aC 5) (aA (aC 7) (aA (aC 8) (aA (aC 9) aF))))))
   (aN (SJ 4 (fun _=>sc_law.nd) (N':=(["_law_i","_law_j","_law_one"]:List Str)) (cap:=[some 7,some 8,none]) (fun _=>rfl) (fun _=>jH (sc0:=aH HD) (N:=WT) rfl rfl (by decide +kernel)) (oW (fun _=>rfl) (aC 4)) (bO 2 (fun _=>(show(["_law_i","_law_j","_law_one"]:List Str).Nodup by decide +kernel))) (GO (bX (FG (fun _=>rfl) (fun _=>hr.units)) (aZ (aA (bE cM (aC 2) aE) (aA (bE cM (aC 2) aE) aF))) (aZ (aA (bH (yO (fun _=>rfl)) (fun _=>T.hB.of "min") boot_min (aA (aC 0) (aA (aC 1) aF))) (aA (bH (yI (fun _=>rfl)) (fun _=>T.hB.of "max") boot_max (aA (aC 0) (aA (aC 1) aF))) aF))))) (aC 2))
   (aN (aGI 4 (OI (DI (fun _=>rfl) (aC 4) (aA (aZ (aA (bH (yO (fun _=>rfl)) (fun _=>T.hB.of "min") boot_min (aA (aC 7) (aA (aC 8) aF))) (aA (bH (yI (fun _=>rfl)) (fun _=>T.hB.of "max") boot_max (aA (aC 7) (aA (aC 8) aF))) (aA (aC 9) aF)))) aF))))
   (aN (AQ (aQ (fun _=>HF T) hr.le (aA (aC 2) (aA (aC 0) (aA (aC 3) aF)))) (vK (fun _=>rfl) (fun _=>rfl) (cO (bO 10 (fun _=>sc_law.nd)) (cO (bO 11 (fun _=>sc_law.nd)) (cO (bO 12 (fun _=>sc_law.nd)) nA)))))
   (aT (zX (fun _=>O9) (fun _=>rfl) (oW (fun _=>rfl) (gV (aA (aZ (aA (aC 10) (aA (aC 8) (aA (aC 11) aF)))) (aA (aZ (aA (aC 7) (aA (aC 10) (aA (aC 9) aF)))) (aA (aZ (aA (aC 7) (aA (aC 7) (aA (aC 11) aF)))) (aA (aZ (aA (aC 7) (aA (aC 8) (aA (aC 11) aF)))) (aA (aZ (aA (aC 7) (aA (aC 8) (aA (aC 12) aF)))) aF))))))) (vK (fun _=>rfl) (fun _=>rfl) (cO (bO 13 (fun _=>sc_law.nd)) (cO (bO 14 (fun _=>sc_law.nd)) (cO (bO 15 (fun _=>sc_law.nd)) nA))))
    (aT (eW (bX (FG (fun _=>rfl) (fun _=>hr.units)) (aQ (fun _=>xF T) hr.le (aA (aC 5) (aA (aC 13) (aA (aC 14) (aA (aC 15) aF))))) (aQ (fun _=>EU T) hr.le (aA (aC 3) (aA (aC 13) (aA (aC 14) (aA (aC 15) aF))))))
    (aT (aY eN))
    cE)))))))))))))))))))
   (aT (aY eN)))
theorem txt_mk{h:Heap}{v156:Tok}{v157:Tok}{v158:Tok}{v159:Addr}{v160:Addr}{v161:Addr}{v162:Addr}{v163:Addr}{v164:Addr}{v165:Addr}{v166:Addr}{od_NoTie__init an_NoTie__init:Option Addr}{sl_NoTie__init:Array (Option Value)}{oc_NoTie__init kV_NoTie__init dc_NoTie__init pm_NoTie__init cd_NoTie__init ct_NoTie__init:Value}{v167:Addr}{od_Web__init an_Web__init:Option Addr}{sl_Web__init:Array (Option Value)}{oc_Web__init kV_Web__init dc_Web__init pm_Web__init cd_Web__init ct_Web__init:Value}{v168:Addr}{od_Web__tie an_Web__tie:Option Addr}{sl_Web__tie:Array (Option Value)}{oc_Web__tie kV_Web__tie dc_Web__tie pm_Web__tie cd_Web__tie ct_Web__tie:Value}(X:K.In h)(G:h.Ns mainGlobals mg)(v0:PySem.W.nsIn K mainGlobals "ValueError"=some none)(v1:PySem.W.nsIn K mainGlobals "all"=some none)(v2:PySem.W.nsIn K mainGlobals "bool"=some none)(v3:PySem.W.nsIn K mainGlobals "dict"=some none)(v4:PySem.W.nsIn K mainGlobals "enumerate"=some none)(v5:PySem.W.nsIn K mainGlobals "int"=some none)(v6:PySem.W.nsIn K mainGlobals "isinstance"=some none)(v7:PySem.W.nsIn K mainGlobals "len"=some none)(v8:PySem.W.nsIn K mainGlobals "list"=some none)(v9:PySem.W.nsIn K mainGlobals "max"=some none)(v10:PySem.W.nsIn K mainGlobals "min"=some none)(v11:PySem.W.nsIn K mainGlobals "range"=some none)(v12:PySem.W.nsIn K mainGlobals "repr"=some none)(v13:PySem.W.nsIn K mainGlobals "sorted"=some none)(v14:PySem.W.nsIn K mainGlobals "tuple"=some none)(v15:PySem.W.nsIn K mainGlobals "MOST_ABOVE"=some (some (.int 1000000000000 v156)))(v16:PySem.W.nsIn K mainGlobals "BELOW"=some (some (.int 55440 v157)))(v17:PySem.W.nsIn K mainGlobals "MOST_PLACES"=some (some (.int 40 v158)))(v18:PySem.W.nsIn K mainGlobals "NoPlace"=some (some (.ref v159)))(v19:PySem.W.excIn K v159 bmV "ValueError.__new__"=true)(v20:PySem.W.nsIn K mainGlobals "NoTie"=some (some (.ref v160)))(v21:PySem.W.findIn K (.ref v160) "__getattribute__"=some (some (.builtin "BaseException.__getattribute__")))(v22:PySem.W.findIn K (.ref v160) "__getattr__"=some none)(v23:PySem.W.subIn K (.ref v160) (.type "BaseException")=some true)(v24:(PySem.W.clsIn K v160).isSome=true)(v25:PySem.W.findIn K (.ref v160) "__class__"=some (some (.builtin "object.__class__")))(v26:PySem.W.specialIn K (.builtin "object.__class__") "__get__"=some (some (.builtin "getset_descriptor.__get__")))(v27:PySem.W.takesIn K (.builtin "object.__class__")=some true)(v28:PySem.W.mroIn K v160 (.type "object")=some true)(v29:PySem.W.nsIn K mainGlobals "Web"=some (some (.ref v161)))(v30:PySem.W.plainGet K v161 Str.empty=true)(v31:PySem.W.hasDictIn K v161=true)(v32:PySem.W.plainOver K v161=true)(v33:PySem.W.findIn K (.ref v161) "__setattr__"=some (some (.builtin "object.__setattr__")))(v34:PySem.W.findIn K (.ref v161) "ties"=some none)(v35:PySem.W.findIn K (.ref v161) "many"=some none)(v36:PySem.W.nsIn K mainGlobals "NoWeight"=some (some (.ref v162)))(v37:PySem.W.excIn K v162 bmV "ValueError.__new__"=true)(v38:PySem.W.exmOne K (.ref v162) (.ref v162)=some true)(v39:PySem.W.exmOne K (.ref v160) (.ref v162)=some false)(v40:PySem.W.exmOne K (.ref v159) (.ref v162)=some false)(v41:PySem.W.findIn K (.ref v159) "__getattribute__"=some (some (.builtin "BaseException.__getattribute__")))(v42:PySem.W.findIn K (.ref v159) "__getattr__"=some none)(v43:PySem.W.subIn K (.ref v159) (.type "BaseException")=some true)(v44:(PySem.W.clsIn K v159).isSome=true)(v45:PySem.W.findIn K (.ref v159) "__class__"=some (some (.builtin "object.__class__")))(v46:PySem.W.specialIn K (.builtin "object.__class__") "__get__"=some (some (.builtin "getset_descriptor.__get__")))(v47:PySem.W.takesIn K (.builtin "object.__class__")=some true)(v48:PySem.W.mroIn K v159 (.type "object")=some true)(v49:PySem.W.findIn K (.ref v162) "__getattribute__"=some (some (.builtin "BaseException.__getattribute__")))(v50:PySem.W.findIn K (.ref v162) "__getattr__"=some none)(v51:PySem.W.subIn K (.ref v162) (.type "BaseException")=some true)(v52:(PySem.W.clsIn K v162).isSome=true)(v53:PySem.W.findIn K (.ref v162) "__class__"=some (some (.builtin "object.__class__")))(v54:PySem.W.specialIn K (.builtin "object.__class__") "__get__"=some (some (.builtin "getset_descriptor.__get__")))(v55:PySem.W.takesIn K (.builtin "object.__class__")=some true)(v56:PySem.W.mroIn K v162 (.type "object")=some true)(v57:kJ K (.ref v159) kB=true)(v58:PySem.W.kitOne K (.type "NoneType") (.ref v159)=some false)(v59:kJ K (.type "ValueError") cV=true)(v60:PySem.W.kitOne K (.type "NoneType") (.type "ValueError")=some false)(v61:PySem.W.nsIn K mainGlobals "CutError"=some (some (.ref v163)))(v62:kJ K (.ref v163) dR=true)(v63:PySem.W.kitOne K (.type "NoneType") (.ref v163)=some false)(v64:PySem.W.nsIn K mainGlobals "NoLine"=some (some (.ref v164)))(v65:kJ K (.ref v164) gO=true)(v66:PySem.W.kitOne K (.type "NoneType") (.ref v164)=some false)(v67:PySem.W.nsIn K mainGlobals "TooMany"=some (some (.ref v165)))(v68:kJ K (.ref v165) fF=true)(v69:PySem.W.kitOne K (.type "NoneType") (.ref v165)=some false)(v70:kJ K (.ref v160) iU=true)(v71:PySem.W.kitOne K (.type "NoneType") (.ref v160)=some false)(v72:PySem.W.exmOne K (.ref v162) (.ref v159)=some false)(v73:PySem.W.exmOne K (.ref v160) (.ref v159)=some false)(v74:PySem.W.exmOne K (.ref v159) (.ref v159)=some true)(v75:kJ K (.ref v162) iS=true)(v76:PySem.W.kitOne K (.type "NoneType") (.ref v162)=some false)(v77:PySem.W.findIn K (.ref v160) "__setattr__"=some (some (.builtin "object.__setattr__")))(v78:aAx K v160=true)(v79:PySem.W.takerIn K v160 "at"=some none)(v80:PySem.W.hasDictIn K v160=true)(v81:PySem.W.findIn K (.ref v160) "at"=some none)(v82:PySem.W.keepIn K (.ref v160)=true)(v83:FZ K v160=true)(v84:PySem.W.findIn K (.ref v160) "__init__"=some (some (.ref v166)))(v85:K.lookup v166=some ⟨oc_NoTie__init,od_NoTie__init,.func (PySem.W.fnOf "__init__" "NoTie.__init__" (cR eV) (bF eV) (aH eV) .none kV_NoTie__init dc_NoTie__init pm_NoTie__init an_NoTie__init cd_NoTie__init ct_NoTie__init),sl_NoTie__init⟩)(v86:PySem.W.codeIn K cd_NoTie__init "NoTie.__init__"=true)(v87:PySem.W.keepIn K (.ref v166)=true)(v88:PySem.W.isFn K (.ref v166)=true)(v89:PySem.W.findIn K (.ref v161) "weights"=some none)(v90:PySem.W.findIn K (.ref v161) "__init__"=some (some (.ref v167)))(v91:K.lookup v167=some ⟨oc_Web__init,od_Web__init,.func (PySem.W.fnOf "__init__" "Web.__init__" (cR fH) (bF fH) (aH fH) .none kV_Web__init dc_Web__init pm_Web__init an_Web__init cd_Web__init ct_Web__init),sl_Web__init⟩)(v92:PySem.W.codeIn K cd_Web__init "Web.__init__"=true)(v93:PySem.W.keepIn K (.ref v167)=true)(v94:PySem.W.isFn K (.ref v167)=true)(v95:PySem.W.makesIn K v161=true)(v96:PySem.W.keepIn K (.ref v161)=true)(v97:PySem.W.findIn K (.ref v161) "tie"=some (some (.ref v168)))(v98:K.lookup v168=some ⟨oc_Web__tie,od_Web__tie,.func (PySem.W.fnOf "tie" "Web.tie" (cR iT) (bF iT) (aH iT) .none kV_Web__tie dc_Web__tie pm_Web__tie an_Web__tie cd_Web__tie ct_Web__tie),sl_Web__tie⟩)(v99:PySem.W.codeIn K cd_Web__tie "Web.tie"=true)(v100:PySem.W.keepIn K (.ref v168)=true)(v101:PySem.W.isFn K (.ref v168)=true)(v102:Def K mg "_law_stream" jR)(v103:Def K mg "_law_take" nE)(v104:Def K mg "_law_pick" nT)(v105:Def K mg "_law_least" mE)(v106:Def K mg "_law_weight" jK)(v107:Def K mg "_law_ties" nK)(v108:Def K mg "is_whole" qQ)(v109:Def K mg "is_row" uY)(v110:Def K mg "common" vE)(v111:Def K mg "is_row_of" nP)(v112:Def K mg "has_amount_numbers" eK)(v113:Def K mg "is_in_parts" jM)(v114:Def K mg "is_weight" nG)(v115:Def K mg "is_place" pH)(v116:Def K mg "are_unlike_places" fD)(v117:Def K mg "is_between_places" eY)(v118:Def K mg "is_tie" vX)(v119:Def K mg "kept_ties" jE)(v120:Def K mg "_law_due" kW)(v121:Def K mg "refuse_no_two_places" dN)(v122:Def K mg "refuse_no_change" fN)(v123:Def K mg "changed" nX)(v124:Def K mg "_law_right" fU)(v125:Def K mg "_law_any" lM)(v126:Def K mg "_law_bent" nW)(v127:Def K mg "_law_odd" oX)(v128:Def K mg "_law_refused" iX)(v129:Def K mg "_law_is_whole" iA)(v130:Def K mg "_law_is_row" jP)(v131:Def K mg "_law_is_amount" eL)(v132:Def K mg "_law_is_weight" gW)(v133:Def K mg "_law_told" nY)(v134:Def K mg "law" HD):Txt K mg:=by
 cases nD v18;cases nD v20;cases nD v29;cases nD v36;cases nD v61;cases nD v64;cases nD v67;exact⟨(cH (D1 X G v0) (cH (D1 X G v1) (cH (D1 X G v2) (cH (D1 X G v3) (cH (D1 X G v4) (cH (D1 X G v5) (cH (D1 X G v6) (cH (D1 X G v7) (cH (D1 X G v8) (cH (D1 X G v9) (cH (D1 X G v10) (cH (D1 X G v11) (cH (D1 X G v12) (cH (D1 X G v13) (cH (D1 X G v14) XU))))))))))))))),⟨_,J3 X G v15⟩,⟨_,J3 X G v16⟩,⟨_,J3 X G v17⟩,J3 X G v18,v19,J3 X G v20,⟨⟨v21,v22,v23,v24⟩,v25,v26,v27,v28⟩,J3 X G v29,⟨v30,v31,v32,v33⟩,v34,v35,J3 X G v36,v37,v38,v39,v40,⟨⟨v41,v42,v43,v44⟩,v45,v46,v47,v48⟩,⟨⟨v49,v50,v51,v52⟩,v53,v54,v55,v56⟩,v57,v58,v59,v60,J3 X G v61,v62,v63,J3 X G v64,v65,v66,J3 X G v67,v68,v69,v70,v71,v72,v73,v74,v75,v76,⟨v77,v78,v79,v80,v81⟩,v82,v83,GR rfl v84 v85 v86 v87 v88,v89,GR rfl v90 v91 v92 v93 v94,v95,v96,GR rfl v97 v98 v99 v100 v101,v102,v103,v104,v105,v106,v107,v108,v109,v110,v111,v112,v113,v114,v115,v116,v117,v118,v119,v120,v121,v122,v123,v124,v125,v126,v127,v128,v129,v130,v131,v132,v133,v134⟩
end
end Q6
end
end
section
namespace Q6
variable{L M M':Sto}{J a b j lo n r y:Int}{ts us vs:List Tie}{i m s w:Nat}{x z:CD}{γ:Ga}{ds xs:List PyData}{p q:PyData}{ns:List Int}{c c':Cell}{ee f fb fo:EF}{g:GF}{fa:AF}{g6:Option CD}
open PySem PySem.Spec PyProof.Rows L2
local macro_rules | `(tactic| simp! [$a,*]) => `(tactic| simp only [fnF, fnX, lH, HG, QO, zT, PQ, yX, aAC, aDu, liA, liE, liS, uX, aBO, aAB, aFN, VU, setG, jS, wB, bK, sIf, cG, aHk, cZ, cN, AR, hName, sJ, bZ, oR, hSub, gOr, aIJ, pC, gB, LO, aBu, aM, aB, aI, aD, fC, fOp, fUn, jV, fOr, RS, fIf, zH, asB, bR, nH, uE, hV, FO, aHC, pI, ifS, aBJ, vJ, ID, EM, oQ, vC, ltI, leI, gtI, geI, Option.bind_some, Option.bind_none, Option.map_some, List.getElem?_cons_zero, List.getElem?_cons_succ, List.length_cons, List.length_nil, List.set_cons_zero, List.set_cons_succ, List.map_cons, List.map_nil, List.replicate_zero, List.replicate_succ, List.cons_append, List.nil_append, List.append_nil, if_true, ite_true, ite_false, Nat.reduceAdd, Nat.reduceSub, reduceIte, Bool.not_true, Bool.not_false, Bool.false_eq_true, $a,*])
noncomputable abbrev I(n:Int):CD:=.d (.int n)
noncomputable abbrev B(b:Bool):CD:=.d (.bool b)
mutual
theorem GJ{M:Sto}:∀(n:Nat)(x:CD)(d:PyData),snap n M x=some d->snap (n+1) M x=some d
 |n,.d y=>fun d h=>by rw[hZ]at h ⊢;exact h
 |0,.c i=>fun d h=>by unfold snap at h;cases h
 |n+1,.c i=>fun d h=>by
  unfold snap at h ⊢;cases e:M[i]? with
  |none=>rw[e]at h;cases h
  |some c=>
   rw[e]at h;cases c with
   |lst xs=>
    obtain⟨ds,h1,h⟩:=aG (show(cL n M xs).bind _=_ from h);cases h;show(cL (n+1) M xs).bind _=_;rw[zN n xs ds h1];rfl
   |_=>cases h
 |0,.t xs=>fun d h=>by unfold snap at h;cases h
 |n+1,.t xs=>fun d h=>by
  unfold snap at h ⊢;obtain⟨ds,h1,h⟩:=aG h;cases h;rw[zN n _ ds h1];rfl
 |0,.f xs=>fun d h=>by unfold snap at h;cases h
 |n+1,.f xs=>fun d h=>by unfold snap at h;cases h
theorem zN{M:Sto}:∀(n:Nat)(xs:List CD)(ds:List PyData),cL n M xs=some ds->cL (n+1) M xs=some ds
 |_,[]=>fun ds h=>by unfold cL at h ⊢;exact h
 |n,x::xs=>fun ds h=>by
  unfold cL at h ⊢;obtain⟨d,h1,h⟩:=aG h;obtain⟨es,h2,h⟩:=aG h;cases h;rw[GJ n x d h1];show(cL (n+1) M xs).bind _=_;rw[zN n xs es h2];rfl
end
noncomputable def Rds(M:Sto)(x:CD)(d:PyData):Prop:=snap 5 M x=some d
theorem Rds.d{d:PyData}:Rds M (.d d) d:=hZ
theorem AE{M:Sto}{n:Nat}:∀{xs:List CD}{ds:List PyData},cL n M xs=some ds->xs.length=ds.length/\∀(j:Nat) e,ds[j]?=some e->∃y,xs[j]?=some y/\snap n M y=some e
 |[],ds=>fun h=>by unfold cL at h;cases h;exact⟨rfl,fun j e q=>by cases q⟩
 |x::xs,ds=>fun h=>by
  unfold cL at h;obtain⟨d,h1,h⟩:=aG h;obtain⟨es,h2,h⟩:=aG h;cases h;obtain⟨k1,k2⟩:=AE h2;refine⟨by rw[C7,C7,k1],fun j e q=>?_⟩;cases j with
  |zero=>cases q;exact⟨x,rfl,h1⟩
  |succ j=>exact k2 j e q
theorem Rds.items{d:PyData}(h:Rds M x d)(hd:bJ d=some ds):mB [x] M=some (I ds.length,M)/\∀(j:Nat) e,ds[j]?=some e->∃y,ixF x (I j) M=some (y,M)/\Rds M y e:=by
 cases x with
 |d z=>
  rw[Rds,hZ]at h;cases h;refine⟨by show(bJ d).bind _=_;rw[hd];rfl,fun j e he=>⟨.d e,?_,hZ⟩⟩;show(bJ d).bind (fun ds=>(atI ds (j:Int)).bind fun e=>some (CD.d e,M))=_;rw[hd,A1,uW he];rfl
 |c i=>
  unfold Rds snap at h;cases e:M[i]? with
  |none=>rw[e]at h;cases h
  |some c=>
   rw[e]at h;cases c with
   |lst xs=>
    obtain⟨es,h1,h⟩:=aG (show(cL 4 M xs).bind _=_ from h);cases h;cases hd;obtain⟨k1,k2⟩:=AE h1;refine⟨by simp only[mB,e,k1],fun j f hf=>?_⟩;obtain⟨y,hy,hs⟩:=k2 j f hf;exact⟨y,by simp only[ixF,e,uW hy,Option.bind_some],GJ 4 y f hs⟩
   |_=>cases h
 |f kvs=>unfold Rds snap at h;cases h
 |t xs=>
  unfold Rds snap at h;obtain⟨es,h1,h⟩:=aG h;cases h;cases hd;obtain⟨k1,k2⟩:=AE h1;refine⟨by rw[<- k1,A9];rfl,fun j f hf=>?_⟩;obtain⟨y,hy,hs⟩:=k2 j f hf;rw[D6]at hy;cases q:xs[j]? with
  |none=>rw[q]at hy;cases hy
  |some z=>
   rw[q]at hy;cases hy;exact⟨_,by simp only[ixF,uW q,Option.bind_some],GJ 4 _ f hs⟩
noncomputable def eE:PyData->Bool
 |.int _=>true
 |_=>false
noncomputable def qU:PyData->Bool
 |.list _=>true
 |.tuple _=>true
 |_=>false
theorem MB{d:PyData}(h:Rds M x d):dH [x] M=some (B (eE d),M):=by
 simp![dH,sU,KG,show snap 5 M x=some d from h];cases d<;>rfl
theorem zM{d:PyData}(h:Rds M x d):iQ [x] M=some (B (qU d),M):=by
 simp![iQ,AJ,GV,show snap 5 M x=some d from h];cases d<;>rfl
theorem xE{i:Int}:eqX false (I i) (I j) M=some (B (i==j),M):=rfl
theorem MY{i:Int}:eqX true (I i) (I j) M=some (B (!(i==j)),M):=rfl
theorem tM{i:Int}:dW (I i) (I j) M=some (I (i+j),M):=rfl
theorem qG{d:PyData}(n:Int)(h:Rds M x d)(hd:bJ d=some ds):dE [x,I n] M=some (B ((ds.length:Int)==n),M):=by
 have e1:iQ [x] M=some (B true,M):=by
  rw[zM h];cases d<;>first|rfl|cases hd
 simp![dE,lD,e1,(h.items hd).1,xE]
theorem iF(x:PyData)(M:Sto):dH [.d x] M=some (.d (.bool (eE x)),M):=MB Rds.d
theorem JP(x:PyData)(M:Sto):iQ [.d x] M=some (.d (.bool (qU x)),M):=zM Rds.d
noncomputable def gJ(d:PyData)(n:Int):Bool:=match bJ d with
 |some ds=>((ds.length:Int)==n)
 |none=>false
theorem lL(x:PyData)(n:Int)(M:Sto):dE [.d x,.d (.int n)] M=some (.d (.bool (gJ x n)),M):=by
 cases e:bJ x with
 |some ds=>
  rw[qG n Rds.d e];unfold gJ;rw[e]
 |none=>
  have h1:qU x=false:=by cases x<;>first|rfl|cases e
  have h2:gJ x n=false:=by unfold gJ;rw[e]
  rw[h2];simp![dE,lD,JP,h1]
theorem JF(x y:Int):Int.gcd y (x % y)=Int.gcd x y:=by
 rw[Int.gcd_comm x y];have:x % y=x-y*(x / y):=by have:=Int.emod_add_mul_ediv x y;omega
 rw[this];simp
theorem fG{x:Int}(h:0<y):mO x y=true:=by simp[mO,h]
theorem wM(M:Sto):∀(n:Nat)(x y:Int),0<=x->0<=y->y.toNat<n->
 fP (LO (aD 1)) (HS 0 1 (aB (aD 1) (aB (fOp oQ (aD 0) (aD 1)) aI))) n [some (I x),some (I y)] M=some (.nx [some (I (Int.gcd x y)),some (I 0)],M)
 |0=>fun _ _ _ _ h=>by omega
 |n+1=>fun x y hx hy h=>by
  by_cases e:y=0
  .subst e;have:(Int.gcd x 0:Int)=x:=by rw[Int.gcd_zero_right];omega
   rw[this];rfl
  .have hp:0<y:=by omega
   have ih:=wM M n y (x % y) hy (J6 _ e) (by have:=I0 x hp;omega);rw[JF]at ih;rw[<- ih];have hb:(y != 0)=true:=by simp[e]
   simp only[fP,LO,aD,aBu,HS,aB,fOp,aI,oQ,pI,ifS,fG hp,hb,Option.bind,List.getElem?_cons_succ,List.getElem?_cons_zero,if_true,List.set]
theorem IC(M:Sto)(ha:0<=a)(hb:0<=b):yN [I a,I b] M=some (I (Int.gcd a b),M):=by
 have h:sI [some (I a),some (I b)] M=_:=IB (wM M (b.toNat+1) a b ha hb (F5 _));show((bK sI _ [some (I a),some (I b)] M).bind _)=_;unfold bK;rw[h];rfl
noncomputable def hW(d:PyData):Bool:=match bJ d with
 |some [.int a,.int b]=>decide (0<=a)&&decide (1<=b)
 |_=>false
theorem ZK{x:PyData}(h:gJ x 2=true):∃a b,x=.list [a,b]\/x=.tuple [a,b]:=by
 unfold gJ at h;cases x with
 |list ds=>
  have h:((ds.length:Int)==2)=true:=h;rcases ds with _|⟨a,_|⟨b,_|⟨c,r⟩⟩⟩
  .simp at h
  .simp at h
  .exact⟨a,b,.inl rfl⟩
  .simp at h;omega
 |tuple ds=>
  have h:((ds.length:Int)==2)=true:=h;rcases ds with _|⟨a,_|⟨b,_|⟨c,r⟩⟩⟩
  .simp at h
  .simp at h
  .exact⟨a,b,.inr rfl⟩
  .simp at h;omega
 |_=>simp[bJ]at h
theorem AI{x:PyData}(h:gJ x 2=false):hW x=false:=by
 unfold hW;unfold gJ at h;cases q:bJ x with
 |none=>rfl
 |some ds=>
  rw[q]at h;rcases ds with _|⟨a,_|⟨b,_|⟨c,r⟩⟩⟩
  .rfl
  .cases a<;>rfl
  .simp at h
  .cases a<;>cases b<;>rfl
theorem aIW{p q:Bool}:(if p=true then some (B q,M)else some (B false,M))=some (B (p&&q),M):=by cases p<;>rfl
theorem dC(x:PyData)(M:Sto):bB [.d x] M=some (B (hW x),M):=by
 cases h:gJ x 2 with
 |false=>
  rw[AI h];simp![bB,bL,lL,h]
 |true=>
  obtain⟨a,b,hx⟩:∃a b,bJ x=some [a,b]:=by
   obtain⟨a,b,rfl|rfl⟩:=ZK h<;>exact⟨a,b,rfl⟩
  have x0:ixF (.d x) (I 0) M=some (.d a,M):=by show(bJ x).bind _=_;rw[hx];rfl
  have x1:ixF (.d x) (I 1) M=some (.d b,M):=by show(bJ x).bind _=_;rw[hx];rfl
  cases ha:eE a with
  |false=>
   have e:hW x=false:=by unfold hW;rw[hx];cases a<;>first|rfl|cases ha
   rw[e];simp![bB,bL,lL,h,iF,x0,ha]
  |true=>
   cases hb:eE b with
   |false=>
    have e:hW x=false:=by unfold hW;rw[hx];cases a<;>cases b<;>first|rfl|cases hb
    rw[e];simp![bB,bL,lL,h,iF,x0,x1,ha,hb]
   |true=>
    obtain⟨i,rfl⟩:∃i,a=.int i:=by cases a<;>first|exact⟨_,rfl⟩|cases ha
    obtain⟨j,rfl⟩:∃j,b=.int j:=by cases b<;>first|exact⟨_,rfl⟩|cases hb
    have e:hW x=(decide (0<=i)&&decide (1<=j)):=by unfold hW;rw[hx]
    rw[e];simp![bB,bL,lL,h,iF,x0,x1,ha,hb,aIW]
noncomputable def P(k:Bool)(a b:Int):PyData:=if k then .list [.int a,.int b]else .tuple [.int a,.int b]
theorem HK{k:Bool}:ixF (.d (P k a b)) (I 0) M=some (I a,M):=by cases k<;>rfl
theorem RF{k:Bool}:ixF (.d (P k a b)) (I 1) M=some (I b,M):=by cases k<;>rfl
theorem YX{k:Bool}:hW (P k a b)=(decide (0<=a)&&decide (1<=b)):=by cases k<;>rfl
noncomputable def tN(a b:Int):Bool:=decide (0<=a)&&decide (1<=b)&&(Int.gcd a b==1)
theorem aIV(n m:Nat):((n:Int)==(m:Int))=(n==m):=by
 rw[S9];simp;omega
noncomputable def eP(a b:Int):Bool:=decide (0<=a)&&decide (1<=b)&&(55440 % b==0)&&(Int.gcd a b==1)&&decide (a<=1000000000000)
theorem sA(k:Bool)(a b:Int)(M:Sto):cA [.d (P k a b)] M=some (B (decide (0<=a)&&decide (1<=b)&&(55440 % b==0)&&(Int.gcd a b==1)),M):=by
 cases h:(decide (0<=a)&&decide (1<=b))with
 |false=>
  simp![cA,dF,dC,YX,h,Bool.false_and]
 |true=>
  have hh:=h;rw[B3]at h;have h1:=C2 h.1;have h2:=C2 h.2;have hm:mO 55440 b=true:=fG (by omega);cases h3:(55440 % b==0)with
  |false=>simp![cA,dF,dC,YX,hh,HK,RF,hm,xE,h3,Bool.true_and,Bool.false_and]
  |true=>
   simp![cA,dF,dC,YX,hh,HK,RF,hm,xE,h3,Bool.true_and,IC M h1 (Int.le_trans (by decide) h2)];rw[show(1:Int)=((1:Nat):Int)from rfl,aIV]
theorem KO(k:Bool)(a b:Int)(M:Sto):cD [.d (P k a b)] M=some (B (eP a b),M):=by
 cases h:(decide (0<=a)&&decide (1<=b)&&(55440 % b==0)&&(Int.gcd a b==1))with
 |false=>
  have e:eP a b=false:=by unfold eP;rw[h];rfl
  rw[e];simp![cD,gN,sA,h]
 |true=>
  have e:eP a b=decide (a<=1000000000000):=by unfold eP;rw[h];rfl
  rw[e];simp![cD,gN,sA,h,HK]
theorem zC(M:Sto)(a b:Int):∀(n:Nat)(x y:Int),0<=x->0<=y->y.toNat<n->
 fP (gB (fOp gtI (aD 3) (fC (.int 0)))) (HS 2 3 (aB (aD 3) (aB (fOp oQ (aD 2) (aD 3)) aI))) n [some (I a),some (I b),some (I x),some (I y)] M=some (.nx [some (I a),some (I b),some (I (Int.gcd x y)),some (I 0)],M)
 |0=>fun _ _ _ _ h=>by omega
 |n+1=>fun x y hx hy h=>by
  by_cases e:y=0
  .subst e;have:(Int.gcd x 0:Int)=x:=by rw[Int.gcd_zero_right];omega
   rw[this];rfl
  .have hp:0<y:=by omega
   have ih:=zC M a b n y (x % y) hy (J6 _ e) (by have:=I0 x hp;omega);rw[JF]at ih;rw[<- ih];have hb:decide (0<y)=true:=C4 hp;simp![fP,HS,fG hp,hb]
theorem FV(h:1<=b):1<=(Int.gcd a b:Int):=by
 have:Int.gcd a b≠0:=fun z=>by have:=(Int.gcd_eq_zero_iff.mp z).2;omega
 omega
theorem aGz(h:1<=b):(Int.gcd a b:Int)<=b:=Int.le_of_dvd (by omega) (Int.gcd_dvd_right a b)
theorem wsm(h:0<=y)(h2:y<2 ^ 200):y.natAbs<qW:=by
 have h1:y.natAbs<2 ^ 200:=by omega
 exact B7 h1 (Y4 (by decide) (by decide))
theorem PP{x:Int}(h:0<y)(h2:y.natAbs<qW):DM x y=true:=by simp[DM,h,h2]
theorem EV(M:Sto)(ha:0<=a)(hb:1<=b)(hw:b.natAbs<qW):gS [I a,I b] M=some (.d (.tuple [.int (a / (Int.gcd a b:Int)),.int (b / (Int.gcd a b:Int))]),M):=by
 have h:pQ [some (I a),some (I b),some (I a),some (I b)] M=_:=IB (zC M a b (b.toNat+1) a b ha (by omega) (F5 _));have g1:=FV (a:=a) hb;have g2:=aGz (a:=a) hb;have d1:∀x,DM x (Int.gcd a b:Int)=true:=fun x=>PP (by omega) (L4 (by omega) hw);have sz:(2:Nat)<=sizeLine:=by decide
 simp![gS,mW,h,d1,sz]
theorem nB(k:Bool)(a b:Int)(M:Sto):iH [.d (P k a b)] M=some (B true,M):=by cases k<;>rfl
theorem tL(k:Bool)(a b:Int)(M:Sto):gH [some (.d (P k a b))] M=some (.d (.list [.bool true,.bool true]),M):=by cases k<;>rfl
theorem LP(k:Bool)(a b:Int)(M:Sto):mB [.d (P k a b)] M=some (I 2,M):=by cases k<;>rfl
theorem NF(M:Sto):LK [.d (.list [.bool true,.bool true])] M=some (B true,M):=rfl
theorem aII{c d:Int}:eqX false (.d (.tuple [.int a,.int b])) (.d (.tuple [.int c,.int d])) M=some (B (a==c&&(b==d&&true)),M):=rfl
theorem WZ(ha:0<=a)(hb:1<=b):((a / (Int.gcd a b:Int)==a)&&((b / (Int.gcd a b:Int)==b)&&true))=(Int.gcd a b==1):=by
 have g1:=FV (a:=a) hb;by_cases h:Int.gcd a b=1
 .rw[h];simp
 .have hb2:b / (Int.gcd a b:Int)<b:=Int.ediv_lt_self_of_pos_of_ne_one (by omega) (by omega);have e1:(b / (Int.gcd a b:Int)==b)=false:=by rw[Y9];omega
  have e2:(Int.gcd a b==1)=false:=by rw[Y9];exact h
  rw[e1,e2];simp
theorem gC(k:Bool)(a b:Int)(M:Sto)(hw:b.natAbs<qW):bI [.d (P k a b)] M=some (B (tN a b),M):=by
 have h2:((2:Int)==2)=true:=rfl;by_cases ha:0<=a
 .by_cases hb:1<=b
  .have e:tN a b=(Int.gcd a b==1):=by unfold tN;rw[C4 ha,C4 hb];rfl
   have n1:decide (a<0)=false:=B8 (by omega);have n2:decide (b<1)=false:=B8 (by omega);have sz:(2:Nat)<=sizeLine:=by decide
   rw[e,<- WZ ha hb];simp![bI,bU,nB,LP,MY,h2,tL,NF,HK,RF,n1,n2,EV M ha hb hw,sz,aII]
  .have e:tN a b=false:=by unfold tN;rw[B8 hb];simp
   have n2:decide (b<1)=true:=C4 (by omega);have n1:decide (a<0)=false:=B8 (by omega);rw[e];simp![bI,bU,nB,LP,MY,h2,tL,NF,HK,RF,n1,n2]
 .have e:tN a b=false:=by unfold tN;rw[B8 ha];simp
  have n1:decide (a<0)=true:=C4 (by omega);rw[e];simp![bI,bU,nB,LP,MY,h2,tL,NF,HK,RF,n1]
theorem VT:eP a b=(tN a b&&(decide (a<=10 ^ (12:Int).toNat)&&(55440 % b==0))):=by
 unfold eP tN;show _=(_&&(decide (a<=1000000000000)&&_));cases decide (0<=a)<;>cases decide (1<=b)<;>cases (55440 % b==0)<;>cases (Int.gcd a b==1)<;>cases decide (a<=1000000000000)<;>rfl
theorem xM(k:Bool)(a b:Int)(M:Sto)(hw:b.natAbs<qW):bV [.d (P k a b)] M=some (B (eP a b),M):=by
 have hp:uQ 10 12=true:=by decide
 rw[VT];cases h:tN a b with
 |false=>simp![bV,cW,gC k a b M hw,h,Bool.false_and]
 |true=>
  have hb:0<b:=by
   unfold tN at h;simp only[Bool.and_eq_true,decide_eq_true_eq]at h;omega
  cases h2:decide (a<=10 ^ (12:Int).toNat)with
  |false=>simp![bV,cW,gC k a b M hw,h,Bool.true_and,Bool.false_and,HK,hp,h2]
  |true=>simp![bV,cW,gC k a b M hw,h,Bool.true_and,HK,RF,hp,h2,fG hb,xE]
noncomputable def Stm(M:Sto)(i:Nat):Prop:=∃a b:Int,M[i]?=some (.lst [I a,I b])/\0<=a/\0<=b/\b<2 ^ 40
noncomputable def Nxt(i:Nat)(M M':Sto):Prop:=∃a b:Int,M'=M.set i (.lst [I a,I b])/\0<=a/\0<=b/\b<2 ^ 40
theorem Stm.lt(h:Stm M i):i<M.length:=by
 obtain⟨a,b,h,_⟩:=h;exact(List.getElem?_eq_some_iff.mp h).1
theorem Nxt.stm(n:Nxt i M M')(h:Stm M i):Stm M' i:=by
 obtain⟨a,b,rfl,r⟩:=n;exact⟨a,b,by rw[E1 h.lt],r⟩
theorem Nxt.trans{M1 M2:Sto}(n:Nxt i M M1)(m:Nxt i M1 M2):Nxt i M M2:=by
 obtain⟨a,b,rfl,_⟩:=n;obtain⟨c,d,rfl,r⟩:=m;exact⟨c,d,by rw[List.set_set],r⟩
theorem aIA{y:CD}(h:M[i]?=some (.lst [x,y])):ixF (.c i) (I 0) M=some (x,M):=by
 unfold ixF;dsimp only;rw[h];rfl
theorem aGZ{y:CD}(h:M[i]?=some (.lst [x,y])):ixF (.c i) (I 1) M=some (y,M):=by
 unfold ixF;dsimp only;rw[h];rfl
theorem aDx{y:CD}(h:M[i]?=some (.lst [x,y])):BF (.c i) (I 0) z M=some (M.set i (.lst [z,y])):=by
 unfold BF;dsimp only;rw[h];rfl
theorem aHc{y:CD}(h:M[i]?=some (.lst [x,y])):BF (.c i) (I 1) z M=some (M.set i (.lst [x,z])):=by
 unfold BF;dsimp only;rw[h];rfl
theorem GT{x:Int}(h:y.natAbs<2 ^ 64):pV x y=true:=by simp only[pV,decide_eq_true h,Bool.or_true,Bool.true_or]
theorem aBF{x:Int}(h:x.natAbs<2 ^ 64):pV x y=true:=by simp only[pV,decide_eq_true h,Bool.true_or]
theorem dG{m:Int}(h:Stm M i)(m0:0<m)(m1:m<2 ^ 200):∃r M',aU [.c i,I m] M=some (I r,M')/\0<=r/\r<m/\Nxt i M M':=by
 obtain⟨a,b,hM,a0,b0,b1⟩:=h;have lt:i<M.length:=(List.getElem?_eq_some_iff.mp hM).1;cases e:(a==0)with
 |true=>
  have q0:=J6 (b*48271+12345) (b:=2147483647) (by decide);have q1:=I0 (b*48271+12345) (b:=2147483647) (by decide);have o1:pV b 48271=true:=GT (by decide);have o2:mO (b*48271+12345) 2147483647=true:=fG (by decide);obtain⟨c,hc⟩:∃c,(b*48271+12345) % 2147483647=c:=⟨_,rfl⟩;rw[hc]at q0 q1;have hM1:(M.set i (.lst [I a,I c]))[i]?=some (.lst [I a,I c]):=by rw[E1 lt]
  have o3:pV c c=true:=GT (by omega);have o4:mO (c*c) 2147483629=true:=fG (by decide);have o5:mO (c*c % 2147483629) m=true:=fG m0;refine⟨c*c % 2147483629 % m,M.set i (.lst [I a,I c]),?_,J6 _ (by omega),I0 _ m0,a,c,rfl,a0,q0,by omega⟩;simp![aU,kU,aIA hM,aGZ hM,xE,tM,e,o1,o2,hc,aHc hM,aGZ hM1,o3,o4,o5]
 |false=>
  have o1:mO a m=true:=fG m0;have o2:DM a m=true:=PP m0 (wsm (by omega) m1);refine⟨a % m,M.set i (.lst [I (a / m),I b]),?_,J6 _ (by omega),I0 _ m0,a / m,b,rfl,Int.ediv_nonneg a0 (by omega),b0,b1⟩;simp![aU,kU,aIA hM,xE,e,o1,o2,aDx hM]
theorem ixL{j:Nat}{d:PyData}(h:ds[j]?=some d):ixF (.d (.list ds)) (I j) M=some (.d d,M):=by
 have hlt:j<ds.length:=(List.getElem?_eq_some_iff.mp h).1;have e:atI ds (j:Int)=some d:=uW h;unfold ixF;dsimp only;show(some ds).bind _=_;rw[A1,e];rfl
theorem WW(h:Stm M i)(h0:0<ds.length)(h1:ds.length<1000):∃d M',dD [.c i,.d (.list ds)] M=some (.d d,M')/\d∈ds/\Nxt i M M':=by
 obtain⟨r,M',e,r0,r1,n⟩:=dG (m:=(ds.length:Int)) h (by omega) (by omega);have hlt:r.toNat<ds.length:=by omega
 have hd:ds[r.toNat]?=some ds[r.toNat]:=B1 hlt;have hr:(r.toNat:Int)=r:=Z0 r0;have hx:=ixL (M:=M') hd;rw[hr]at hx;have hl:mB [.d (.list ds)] M=some (I ds.length,M):=rfl;refine⟨ds[r.toNat],M',?_,J8 hlt,n⟩;simp![dD,pE,hl,e,hx]
noncomputable abbrev T2(a b:Int):CD:=.d (.tuple [.int a,.int b])
theorem CZ(h0:0<=a)(h1:a<=1000000000000)(h2:1<=b)(h3:b ∣ 55440):eP (a / (Int.gcd a b:Int)) (b / (Int.gcd a b:Int))=true:=by
 have g1:=FV (a:=a) h2;have gd:((Int.gcd a b:Int)) ∣ b:=Int.gcd_dvd_right a b;have e1:0<=a / (Int.gcd a b:Int):=Int.ediv_nonneg h0 (by omega);have e2:a / (Int.gcd a b:Int)<=1000000000000:=Int.le_trans (Int.ediv_le_self _ h0) h1;have e3:0<b / (Int.gcd a b:Int):=Int.ediv_pos_of_pos_of_dvd (by omega) (by omega) gd;have e4:55440 % (b / (Int.gcd a b:Int))=0:=Int.emod_eq_zero_of_dvd (Int.dvd_trans (Int.ediv_dvd_of_dvd gd) h3);have e5:Int.gcd (a / (Int.gcd a b:Int)) (b / (Int.gcd a b:Int))=1:=Int.gcd_ediv_gcd_ediv_gcd (by omega);unfold eP;rw[e4,e5,C4 e1,C4 (show 1<=b / (Int.gcd a b:Int)by omega),C4 e2];rfl
theorem IG(h:eP a b=true):0<=a/\a<=1000000000000/\1<=b/\b<=55440:=by
 unfold eP at h;simp only[Bool.and_eq_true,decide_eq_true_eq,beq_iff_eq]at h;obtain⟨⟨⟨⟨h1,h2⟩,h3⟩,_⟩,h5⟩:=h;exact⟨h1,h5,h2,Int.le_of_dvd (by decide) (Int.dvd_of_emod_eq_zero h3)⟩
noncomputable def six:List PyData:=[.tuple [.int 1,.int 1],.tuple [.int 1,.int 1],.tuple [.int 2,.int 1],.tuple [.int 1,.int 2],.tuple [.int 3,.int 4],.tuple [.int 0,.int 1]]
noncomputable def belows:List PyData:=[.int 1,.int 2,.int 3,.int 5,.int 7,.int 8,.int 9,.int 11,.int 12,.int 16,.int 35,.int 99,.int 720,.int 5040,.int 27720,.int 55440]
theorem aAd{d:PyData}(h:d∈belows):∃n:Int,d=.int n/\1<=n/\n ∣ 55440/\n<=55440:=by
 unfold belows at h;simp only[List.mem_cons,List.not_mem_nil,or_false]at h;rcases h with rfl|rfl|rfl|rfl|rfl|rfl|rfl|rfl|rfl|rfl|rfl|rfl|rfl|rfl|rfl|rfl<;>exact⟨_,rfl,by decide,by decide,by decide⟩
theorem aGi(h0:0<=r)(h1:r<6)(M:Sto):∃a b,ixF (.d (.list six)) (I r) M=some (T2 a b,M)/\eP a b=true:=by
 have cs:r=0\/r=1\/r=2\/r=3\/r=4\/r=5:=by omega
 rcases cs with rfl|rfl|rfl|rfl|rfl|rfl<;>exact⟨_,_,rfl,by decide⟩
theorem aIU(γ:Ga)(M:Sto):nZ γ M=some (.d (.list six),M):=rfl
theorem aHL(γ:Ga)(M:Sto):oB γ M=some (.d (.list belows),M):=rfl
theorem aCy{x z w:Int}(h0:0<=r)(h1:r<4)(M:Sto):∃c,ixF (.d (.list [.int x,.int y,.int z,.int w])) (I r) M=some (I c,M)/\(c=x\/c=y\/c=z\/c=w):=by
 have cs:r=0\/r=1\/r=2\/r=3:=by omega
 rcases cs with rfl|rfl|rfl|rfl
 .exact⟨x,rfl,.inl rfl⟩
 .exact⟨y,rfl,.inr (.inl rfl)⟩
 .exact⟨z,rfl,.inr (.inr (.inl rfl))⟩
 .exact⟨w,rfl,.inr (.inr (.inr rfl))⟩
theorem yD(h:Stm M i):∃a b M',bQ [.c i] M=some (T2 a b,M')/\eP a b=true/\Nxt i M M':=by
 obtain⟨r,M1,e1,r0,r1,n1⟩:=dG (m:=8) h (by decide) (by decide);have s1:=n1.stm h;cases c:decide (r<6)with
 |true=>
  obtain⟨a,b,e2,w⟩:=aGi r0 (C2 c) M1;refine⟨a,b,M1,?_,w,n1⟩;simp![bQ,fW,e1,c,aIU,e2]
 |false=>
  obtain⟨d,M2,e2,hd,n2⟩:=WW (ds:=belows) s1 (by decide) (by decide);obtain⟨n,rfl,b0,b1,b2⟩:=aAd hd;have s2:=n2.stm s1;obtain⟨t,M3,e3,t0,t1,n3⟩:=dG (m:=1000) s2 (by decide) (by decide);have s3:=n3.stm s2;cases c7:(r==7)with
  |false=>
   refine⟨_,_,M3,?_,CZ t0 (by omega) b0 b1,(n1.trans n2).trans n3⟩;simp![bQ,fW,e1,c,aHL,e2,e3,xE,c7,EV M3 t0 b0 (wsm (by omega) (by omega))]
  |true=>
   obtain⟨u,M4,e4,u0,u1,n4⟩:=dG (m:=1000) s3 (by decide) (by decide);have s4:=n4.stm s3;obtain⟨v,M5,e5,v0,v1,n5⟩:=dG (m:=4) s4 (by decide) (by decide);obtain⟨x,e6,hx⟩:=aCy (x:=10 ^ (12:Int).toNat) (y:=10 ^ (12:Int).toNat-1) (z:=1) (w:=10 ^ (9:Int).toNat+u) v0 v1 M5;have q1:(10:Int) ^ (12:Int).toNat=1000000000000:=rfl;have q2:(10:Int) ^ (9:Int).toNat=1000000000:=rfl;have x0:0<=x/\x<=1000000000000:=by rw[q1,q2]at hx;omega
   have p1:uQ 10 12=true:=by decide
   have p2:uQ 10 9=true:=by decide
   have sz:(4:Nat)<=sizeLine:=by decide
   refine⟨_,_,M5,?_,CZ x0.1 x0.2 b0 b1,(((n1.trans n2).trans n3).trans n4).trans n5⟩;simp![bQ,fW,e1,c,aHL,e2,e3,xE,c7,p1,p2,tM,e4,sz,e5,e6,EV M5 x0.1 b0 (wsm (by omega) (by omega))]
theorem WY{k:Int}(k0:0<=k)(k1:k<1000):∃M',eJ [.d (.list (ns.map .int)),I k] M=some (.c M.length,M')/\Stm M' M.length:=by
 have hl:mB [.d (.list (ns.map .int))] M=some (I ns.length,M):=by
  show some (I ((ns.map PyData.int).length:Nat),M)=_;rw[A9]
 have k2:k<=1000:=by omega
 have kq:=Int.mul_le_mul k2 k2 k0 (by decide);have kk:0<=k*k/\k*k<=1000000:=⟨Int.mul_nonneg k0 k0,by omega⟩;have o1:pV k k=true:=GT (by omega);have sz:(2:Nat)<=sizeLine:=by decide
 have last:∀x y:Int,0<=x->0<=y->y<2 ^ 40->Stm (M++[.lst [I x,I y]]) M.length:=fun x y h1 h2 h3=>⟨x,y,by simp,h1,h2,h3⟩;cases c:decide (k<(ns.length:Int))with
 |false=>
  refine⟨M++[.lst [I 0,I (k*k+11)]],?_,last _ _ (by decide) (by omega) (by omega)⟩;simp![eJ,fV,hl,c,o1,tM,sz]
 |true=>
  have hk:k<(ns.length:Int):=C2 c;have hlt:k.toNat<ns.length:=by omega
  have hd:(ns.map PyData.int)[k.toNat]?=some (.int ns[k.toNat]):=by rw[D6,B1 hlt];rfl
  have hx:=ixL (M:=M) hd;rw[Z0 k0]at hx;generalize ns[k.toNat]=x at hx;have o2:mO x 2147483629=true:=fG (by decide);have p1:uQ 10 18=true:=by decide
  have q0:=J6 x (b:=2147483629) (by decide);have q1:=I0 x (b:=2147483629) (by decide);have q18:(10:Int) ^ (18:Int).toNat=1000000000000000000:=rfl;cases c2:decide (x<10 ^ (18:Int).toNat)with
  |true=>
   refine⟨M++[.lst [I 0,I (x % 2147483629+k*k+1)]],?_,last _ _ (by decide) (by omega) (by omega)⟩;simp![eJ,fV,hl,c,hx,o1,o2,p1,tM,c2,sz]
  |false=>
   have:=E7 c2;refine⟨M++[.lst [I x,I (x % 2147483629+k*k+1)]],?_,last _ _ (by omega) (by omega) (by omega)⟩;simp![eJ,fV,hl,c,hx,o1,o2,p1,tM,c2,sz]
noncomputable def gR(x:PyData):Bool:=match bJ x with
 |some [.int a,.int b]=>tN a b
 |_=>false
noncomputable def dY(x:PyData):Bool:=match bJ x with
 |some [.int a,.int b]=>eP a b
 |_=>false
noncomputable def R2'(k:Bool)(p q:PyData):PyData:=if k then .list [p,q]else .tuple [p,q]
theorem aGR(k:Bool)(a b:Int):R2' k (.int a) (.int b)=P k a b:=rfl
theorem IX(k:Bool)(p q:PyData):bJ (R2' k p q)=some [p,q]:=by cases k<;>rfl
theorem OO{x:PyData}(h:gJ x 2=true):∃k p q,x=R2' k p q:=by
 obtain⟨a,b,rfl|rfl⟩:=ZK h
 .exact⟨true,a,b,rfl⟩
 .exact⟨false,a,b,rfl⟩
theorem PY{x:PyData}(h:hW x=true):∃k a b,x=P k a b:=by
 have hr:gJ x 2=true:=by
  cases e:gJ x 2 with
  |true=>rfl
  |false=>rw[AI e]at h;cases h
 obtain⟨k,p,q,rfl⟩:=OO hr;unfold hW at h;rw[IX]at h;cases p<;>cases q<;>first|exact⟨k,_,_,rfl⟩|simp at h
theorem aBC(k:Bool)(a b:Int):gR (P k a b)=tN a b:=by cases k<;>rfl
theorem OR(k:Bool)(a b:Int):dY (P k a b)=eP a b:=by cases k<;>rfl
theorem wO{x:PyData}(h:hW x=false):gR x=false:=by
 unfold hW at h;unfold gR;split
 .rename_i a b e;rw[e]at h;dsimp only at h;unfold tN;rw[h];rfl
 .rfl
theorem JZ{x:PyData}(h:hW x=false):dY x=false:=by
 unfold hW at h;unfold dY;split
 .rename_i a b e;rw[e]at h;dsimp only at h;unfold eP;rw[h];rfl
 .rfl
theorem KQ(x:PyData)(M:Sto):cD [.d x] M=some (B (dY x),M):=by
 cases h:hW x with
 |false=>
  rw[JZ h];have e:cA [.d x] M=some (B false,M):=by simp![cA,dF,dC,h]
  simp![cD,gN,e]
 |true=>
  obtain⟨k,a,b,rfl⟩:=PY h;rw[OR];exact KO k a b M
theorem nL(x:PyData)(M:Sto):iH [.d x] M=some (B (qU x),M):=by cases x<;>rfl
theorem ND{x:PyData}(h:gJ x 2=false):gR x=false:=wO (AI h)
theorem g_C(k:Bool)(p q:PyData)(M:Sto):gH [some (.d (R2' k p q))] M=some (.d (.list [.bool (eE p),.bool (eE q)]),M):=by
 cases k<;>cases p<;>cases q<;>rfl
theorem aHM(a b:Bool)(M:Sto):LK [.d (.list [.bool a,.bool b])] M=some (B (a&&(b&&true)),M):=rfl
theorem aIr(k:Bool)(p q:PyData)(M:Sto):mB [.d (R2' k p q)] M=some (I 2,M):=by cases k<;>rfl
theorem aEe(k:Bool)(p q:PyData):qU (R2' k p q)=true:=by cases k<;>rfl
theorem xJ(x:PyData)(M:Sto)(ho:oks x=true):bI [.d x] M=some (B (gR x),M):=by
 cases hr:gJ x 2 with
 |false=>
  rw[ND hr];cases hi:qU x with
  |false=>simp![bI,bU,nL,hi]
  |true=>
   have key:∀ds:List PyData,bJ x=some ds->((ds.length:Int)==2)=false/\mB [.d x] M=some (I ds.length,M):=fun ds e=>by
    unfold gJ at hr;rw[e]at hr;refine⟨hr,?_⟩;unfold mB;dsimp only;rw[e];rfl
   obtain⟨ds,e⟩:∃ds,bJ x=some ds:=by cases x<;>first|exact⟨_,rfl⟩|(simp[qU]at hi)
   obtain⟨h1,h2⟩:=key ds e;simp![bI,bU,nL,hi,h2,MY,h1]
 |true=>
  obtain⟨k,p,q,rfl⟩:=OO hr;have h2:((2:Int)==2)=true:=rfl;cases hw:(eE p&&(eE q&&true))with
  |false=>
   have e:gR (R2' k p q)=false:=by
    unfold gR;rw[IX];cases p<;>cases q<;>first|rfl|(simp[eE]at hw)
   rw[e];simp![bI,bU,nL,aEe,aIr,MY,h2,g_C,aHM,hw]
  |true=>
   obtain⟨a,rfl⟩:∃a,p=.int a:=by cases p<;>first|exact⟨_,rfl⟩|(simp[eE]at hw)
   obtain⟨b,rfl⟩:∃b,q=.int b:=by cases q<;>first|exact⟨_,rfl⟩|(simp[eE]at hw)
   rw[aGR,aBC];refine gC k a b M ?_
   have hb:b.natAbs<2 ^ 1900:=by
    have:(oks (.int a)&&(oks (.int b)&&true))=true:=by cases k<;>exact ho
    simp only[Bool.and_true,Bool.and_eq_true]at this;exact C2 this.2
   exact B7 hb (Y4 (by decide) (by decide))
theorem BZ{x:PyData}(h:gR x=false):dY x=false:=by
 unfold gR at h;unfold dY;split
 .rename_i a b e;rw[e]at h;dsimp only at h;rw[VT,h];rfl
 .rfl
theorem SM{x:PyData}(h:gR x=true):∃k a b,x=P k a b:=by
 refine PY ?_;cases e:hW x with
 |true=>rfl
 |false=>rw[wO e]at h;cases h
theorem aGB{k:Bool}(ho:oks (P k a b)=true):b.natAbs<qW:=by
 have hb:b.natAbs<2 ^ 1900:=by
  have:(oks (.int a)&&(oks (.int b)&&true))=true:=by cases k<;>exact ho
  simp only[Bool.and_true,Bool.and_eq_true]at this;exact C2 this.2
 exact B7 hb (Y4 (by decide) (by decide))
theorem oI(x:PyData)(M:Sto)(ho:oks x=true):bV [.d x] M=some (B (dY x),M):=by
 cases h:gR x with
 |false=>
  rw[BZ h];simp![bV,cW,xJ x M ho,h]
 |true=>
  obtain⟨k,a,b,rfl⟩:=SM h;rw[OR];exact xM k a b M (aGB ho)
theorem aIO{s:Str}:eqX true (.d (.str s)) (.d (.str s)) M=some (B false,M):=by
 show some (B (!(s==s)),M)=_;simp
theorem DS{ds:List PyData}(h:∀d∈ds,oks d=true):gZ ds=true:=by
 induction ds with
 |nil=>rfl
 |cons d ds ih=>
  show(oks d&&gZ ds)=true;rw[h d B5,ih fun e he=>h e (B4 _ he)];rfl
theorem BV{w k:Nat}:∀{ds:List PyData},(∀d∈ds,wt d<=w)->ds.length<=k->kL ds<=k*(w+2)
 |[]=>fun _ _=>E3 _
 |d::ds=>fun h hl=>by
  cases k with
  |zero=>simp at hl
  |succ k=>
   have h1:=h d B5;have h2:=BV (w:=w) (k:=k) (fun e he=>h e (B4 _ he)) (by simpa using hl);show wt d+2+kL ds<=_;rw[Nat.succ_mul];omega
theorem qE{m:Nat}:∀{ds:List PyData},(∀d∈ds,d.depth<=m)->PyData.depthAll ds<=m
 |[]=>fun _=>E3 _
 |d::ds=>fun h=>by
  show max d.depth (PyData.depthAll ds)<=m;exact Nat.max_le.mpr ⟨h d B5,qE fun e he=>h e (B4 _ he)⟩
theorem Fit.list{k:Nat}{ds:List PyData}(h:∀d∈ds,Fit w m d)(hl:ds.length<=k):Fit (k*(w+2)+3) (m+1) (.list ds):=
 ⟨DS fun d hd=>(h d hd).ok,Y5 (BV (fun d hd=>(h d hd).wt) hl) 3,Y5 (qE fun d hd=>(h d hd).dp) 1⟩
theorem Fit.tuple{k:Nat}{ds:List PyData}(h:∀d∈ds,Fit w m d)(hl:ds.length<=k):Fit (k*(w+2)+3) (m+1) (.tuple ds):=
 ⟨DS fun d hd=>(h d hd).ok,Y5 (BV (fun d hd=>(h d hd).wt) hl) 3,Y5 (qE fun d hd=>(h d hd).dp) 1⟩
theorem Fit.int{i:Int}(h:i.natAbs<2 ^ 1900):Fit 2000 0 (.int i):=⟨C4 h,A7 _,A7 _⟩
theorem cY{i:Int}(h:i.natAbs<2 ^ 200):i.natAbs<2 ^ 1900:=B7 h (Y4 (by decide) (by decide))
theorem Fit.dictA{d:PyData}(f:Fit w m d):Fit (w+2050) (m+1) (.dict [(.int 0,d),(.str "a",.none)]):=by
 refine⟨?_,?_,?_⟩
 .show((oks (.int 0)&&oks d&&(oks (.str "a")&&oks .none&&true)))=true;rw[f.ok];decide +kernel
 .have h1:=f.wt;show(wt (.int 0)+wt d+4+(wt (.str "a")+wt .none+4+0))+3<=_;have e1:wt (.int 0)=2000:=rfl;have e2:wt (.str "a")=3:=by decide +kernel
  have e3:wt PyData.none=4:=rfl;omega
 .have h1:=f.dp;show max (max 0 d.depth) (max (max 0 0) 0)+1<=_;omega
theorem mM:∀ds:List PyData,hV (ds.map .d)=some ds
 |[]=>rfl
 |d::ds=>by
  show(hV (ds.map .d)).map (d::·)=_;rw[mM ds];rfl
theorem xP{ds:List PyData}(h0:0<=r)(h1:r<ds.length)(M:Sto):∃d∈ds,ixF (.d (.list ds)) (I r) M=some (.d d,M):=by
 have hlt:r.toNat<ds.length:=by omega
 have hd:ds[r.toNat]?=some ds[r.toNat]:=B1 hlt;have hx:=ixL (M:=M) hd;rw[Z0 h0]at hx;exact⟨_,J8 hlt,hx⟩
theorem pM{i:Int}:eqX false (I i) (I j) M=some (B (i==j),M):=rfl
noncomputable def Wn:Nat->Nat
 |0=>2000
 |k+1=>3*(Wn k+2)+3+2050
theorem aDC:∀k,2000<=Wn k
 |0=>A7 _
 |k+1=>by
  have:=aDC k;show 2000<=3*(Wn k+2)+3+2050;omega
noncomputable def EO:List PyData:=[.int 0,.int 1,.int 2,.int 3,.int (-1),.int 40,.int 55440]
noncomputable def GD:List PyData:=[.bool true,.bool false,.none]
noncomputable def QH:List PyData:=[.str "",.str "1",.str "1/2",.str "place",.str "tie",.str "ab"]
theorem aEu(γ:Ga)(M:Sto):uT γ M=some (.d (.list EO),M):=rfl
theorem aFT(γ:Ga)(M:Sto):uJ γ M=some (.d (.list GD),M):=rfl
theorem aEq(γ:Ga)(M:Sto):tY γ M=some (.d (.list QH),M):=rfl
theorem MU:∀d∈EO,Fit 2000 0 d:=by
 intro d hd;unfold EO at hd;simp only[List.mem_cons,List.not_mem_nil,or_false]at hd;rcases hd with rfl|rfl|rfl|rfl|rfl|rfl|rfl<;>exact Fit.int (cY (by decide))
theorem LY:∀d∈GD,Fit 2000 0 d:=by
 intro d hd;unfold GD at hd;simp only[List.mem_cons,List.not_mem_nil,or_false]at hd;rcases hd with rfl|rfl|rfl<;>exact⟨rfl,by decide,A7 _⟩
theorem QZ:∀d∈QH,Fit 2000 0 d:=by
 intro d hd;unfold QH at hd;simp only[List.mem_cons,List.not_mem_nil,or_false]at hd;rcases hd with rfl|rfl|rfl|rfl|rfl|rfl<;>exact⟨rfl,by decide +kernel,A7 _⟩
theorem xD:∀ns:List Int,PyData.canLayAll0 (ns.map .int)=true
 |[]=>rfl
 |n::ns=>by show(true&&PyData.canLayAll0 (ns.map .int))=true;rw[xD ns];rfl
theorem yV:∀ns:List Int,PyData.depthAll (ns.map .int)=0
 |[]=>rfl
 |n::ns=>by show max 0 (PyData.depthAll (ns.map .int))=0;rw[yV ns];rfl
theorem shaped_ints(ns:List Int):SeqAt.shaped (.list (ns.map .int))=true:=by
 unfold SeqAt.shaped;have e1:PyData.canLay0 (.list (ns.map .int))=true:=xD ns;have e2:PyData.depth (.list (ns.map .int))=1:=by show PyData.depthAll (ns.map .int)+1=1;rw[yV]
 rw[e1,e2];rfl
theorem ne_nil(ns:List Int)(M:Sto):eqX true (.d (.list (ns.map .int))) (.d (.list [])) M=some (B (!ns.isEmpty),M):=by
 have e1:=shaped_ints ns;have e2:SeqAt.shaped (.list [])=true:=rfl;show(if (SeqAt.shaped (.list (ns.map .int))&&SeqAt.shaped (.list []))=true then some (B (!PyData.eqv (.list (ns.map .int)) (.list [])),M)else none)=_;rw[e1,e2];cases ns<;>rfl
noncomputable abbrev Sc(ns:List Int):CD:=.d (.list (ns.map .int))
noncomputable def Few(d:PyData):Prop:=∀l,bJ d=some l->l.length<=3
noncomputable def Kp(i:Nat)(M M':Sto):Prop:=∀q c,q≠i->M[q]?=some c->M'[q]?=some c
theorem Kp.refl:Kp i M M:=fun _ _ _ h=>h
theorem Kp.trans{M1 M2:Sto}(a:Kp i M M1)(b:Kp i M1 M2):Kp i M M2:=fun q c n h=>b q c n (a q c n h)
theorem Nxt.kp(n:Nxt i M M'):Kp i M M':=by
 obtain⟨a,b,rfl,_⟩:=n;intro q c h e;rw[D7 (F0 h)];exact e
noncomputable def vD(f:Option (CD×Sto))(M:Sto)(i w m:Nat):Prop:=∃d M',f=some (.d d,M')/\(Fit w m d/\Few d)/\Stm M' i/\Kp i M M'
theorem LA{ds:List PyData}(h:ds.all (fun d=>(bJ d).isNone)=true):∀d∈ds,Few d:=fun d hd l e=>by
 have:=List.all_eq_true.mp h d hd;rw[e]at this;cases this
theorem KD{self:FN}{i w m:Nat}{S:CD}{k:Int}(hself:∀M,Stm M i->vD (self [.c i,S,I (k-1)] M) M i w m):∀(xs:List CD)(s:Option CD)(M:Sto),Stm M i->
 ∃(ds:List PyData)(M':Sto),lcF (hName 3) rN (aM self (aB (aD 0) (aB (aD 1) (aB (fOp vJ (aD 2) (fC (.int 1))) aI)))) xs [some (.c i),some S,some (I k),s] M=some (ds.map .d,M')/\ds.length=xs.length/\(∀d∈ds,Fit w m d)/\Stm M' i/\Kp i M M'
 |[]=>fun s M h=>⟨[],M,rfl,rfl,by simp,h,.refl⟩
 |x::xs=>fun s M h=>by
  obtain⟨d,M1,e1,f1,s1,k1⟩:=hself M h;obtain⟨ds,M2,e2,l2,f2,s2,k2⟩:=KD hself xs (some x) M1 s1;refine⟨d::ds,M2,?_,by simp[l2],?_,s2,k1.trans k2⟩
  .show(Option.bind (self [.c i,S,I (k-1)] M) fun r=>(lcF (hName 3) rN (aM self (aB (aD 0) (aB (aD 1) (aB (fOp vJ (aD 2) (fC (.int 1))) aI)))) xs [some (.c i),some S,some (I k),some x] r.2).bind fun q=>some (r.1::q.1,q.2))=_;rw[e1,A1];dsimp only;rw[e2];rfl
  .intro y hy;rcases List.mem_cons.mp hy with rfl|hy
   .exact f1.1
   .exact f2 y hy
theorem ZP{self:FN}{S:CD}{k:Int}{a b:Option CD}(hself:∀M,Stm M i->vD (self [.c i,S,I (k-1)] M) M i w m){M:Sto}(h:Stm M i):
 ∃(ds:List PyData)(M':Sto),tT self [some (.c i),some S,some (I k),a,b] M=some (.d (.list ds),M')/\ds.length<=3/\(∀d∈ds,Fit w m d)/\Stm M' i/\Kp i M M':=by
 obtain⟨r,M1,e1,r0,r1,n1⟩:=dG (m:=4) h (by decide) (by decide);obtain⟨ds,M2,e2,l2,f2,s2,k2⟩:=KD hself (kP 0 r.toNat) none M1 (n1.stm h);have hlen:(kP 0 r.toNat).length=r.toNat:=by simp[kP]
 have hl:ds.length<=3:=by rw[l2,hlen];omega
 have sz:(3:Nat)<=sizeLine:=by decide
 refine⟨ds,M2,?_,hl,f2,s2,n1.kp.trans k2⟩
 have sm:iI r=true:=by
  unfold iI;rw[C4 (show -(2 ^ 62)<=r by omega),C4 (show r<2 ^ 62 by omega)];rfl
 have e3:kY (aB (aM aU (aB (aD 0) (aB (fC (.int 4)) aI))) aI) [some (.c i),some S,some (I k),a,b] M=some (kP 0 r.toNat,M1):=by
  simp![kY,e1,sm]
 show(Option.bind (mS _ _ _ _ _ _ _) _)=_
 have e4:mS [some 0,some 1,some 2,none] (kY (aB (aM aU (aB (aD 0) (aB (fC (.int 4)) aI))) aI)) (hName 3) rN (aM self (aB (aD 0) (aB (aD 1) (aB (fOp vJ (aD 2) (fC (.int 1))) aI)))) [some (.c i),some S,some (I k),a,b] M=some (ds.map .d,M2):=by
  unfold mS;rw[e3,A1];dsimp only;rw[A4 (by rw[hlen];omega)];exact e2
 rw[e4,A1];dsimp only;rw[mM,A1,A4 (by omega)]
theorem aBf{a b c e:Option CD}{d:PyData}:HP [((fC (.int 0)),(aD 4)),((fC (.str "a")),(fC .none))] [a,b,c,e,some (.d d)] M=some (.d (.dict [(.int 0,d),(.str "a",.none)]),(M++[Cell.dk []]).set M.length Cell.dead):=by
 have e1:GY [((fC (.int 0)),(aD 4)),((fC (.str "a")),(fC .none))] [a,b,c,e,some (.d d)] (M++[.dk []])=some ([(I 0,.d d),(.d (.str "a"),.d .none)],M++[.dk []]):=rfl;have e2:(M++[Cell.dk []])[M.length]?=some (.dk []):=by simp
 have nd:(([(.inl 0,d),(.inr "a",PyData.none)]:List (Key×PyData)).map (·.1)).Nodup:=by
  show([.inl 0,.inr "a"]:List Key).Nodup;simp
 unfold HP;rw[e1,A1];dsimp only;rw[e2];have e3:keyed [(I 0,.d d),(.d (.str "a"),.d .none)]=some [(.inl 0,d),(.inr "a",.none)]:=rfl;rw[e3,A1,A4 ⟨(by show 2<=15;decide),nd⟩];rfl
theorem aBH:Kp i M ((M++[Cell.dk []]).set M.length Cell.dead):=fun q c _ e=>by
 have lt:=(List.getElem?_eq_some_iff.mp e).1;rw[D7 (by omega),F6 lt];exact e
theorem aAm(h:Stm M i):Stm ((M++[Cell.dk []]).set M.length Cell.dead) i:=by
 have hlt:=h.lt;obtain⟨a,b,h1,r⟩:=h;refine⟨a,b,?_,r⟩;rw[D7 (by omega),F6 hlt];exact h1
theorem aCz(n:Int)(ns:List Int)(M:Sto):ixF (Sc (n::ns)) (I 0) M=some (I n,M):=ixL (ds:=(n::ns).map .int) (j:=0) (d:=.int n) rfl
theorem int_bool(b:Bool)(M:Sto):VY [B b] M=some (I (if b then 1 else 0),M):=rfl
theorem aFQ(ds:List PyData)(M:Sto):hJ [.d (.list ds)] M=some (.d (.tuple ds),M):=rfl
theorem VI{w m:Nat}{k:Nat}{d:PyData}(f:Fit 2000 0 d):Fit (Wn k) (2*k) d:=f.mono (aDC k) (E3 _)
theorem YA(k:Nat)(self:FN)(hself:k≠0->∀M,Stm M i->vD (self [.c i,Sc ns,I ((k:Int)-1)] M) M i (Wn (k-1)) (2*(k-1))){M:Sto}(h:Stm M i):
 vD (fnF 3 5 (cP self) [.c i,Sc ns,I (k:Int)] M) M i (Wn k) (2*k):=by
 have o3:∀b:Bool,pV 3 (if b=true then 1 else 0)=true:=fun b=>aBF (by decide);have sz:(0:Nat)<=sizeLine:=E3 _;have p1:uQ 10 40=true:=by decide
 have p2:uQ 10 39=true:=by decide
 obtain⟨r,M1,e1,r0,r1,n1⟩:∃r M1,aU [.c i,I (9-3*(if ((k:Int)==0)=true then 1 else 0))] M=some (I r,M1)/\0<=r/\r<9-3*(if ((k:Int)==0)=true then 1 else 0)/\Nxt i M M1:=by
  cases ((k:Int)==0)with
  |true=>exact dG (m:=9-3*1) h (by decide) (by decide)
  |false=>exact dG (m:=9-3*0) h (by decide) (by decide)
 have s1:=n1.stm h;cases c0:(r==0)with
 |true=>
  cases ns with
  |nil=>
   refine⟨.int (-1),M1,?_,⟨VI (w:=0) (m:=0) (Fit.int (cY (by decide))),fun _ z=>nomatch z⟩,s1,n1.kp⟩;have ne:=ne_nil [] M1;simp![cP,CM,pM,int_bool,o3,e1,c0,sz,ne];rfl
  |cons n ns=>
   have q:(10:Int) ^ (40:Int).toNat=10 ^ 40:=rfl;have q':(10:Int) ^ (39:Int).toNat=10 ^ 39:=rfl;have m1:mO n (10 ^ (40:Int).toNat)=true:=fG (by decide);have b0:=J6 n (b:=10 ^ (40:Int).toNat) (by decide);have b1:=I0 n (b:=10 ^ (40:Int).toNat) (by decide);refine⟨.int (n % 10 ^ (40:Int).toNat-10 ^ (39:Int).toNat),M1,?_,⟨VI (w:=0) (m:=0) (Fit.int (cY (by rw[q,q']at *;omega))),fun _ z=>nomatch z⟩,s1,n1.kp⟩;have ne:=ne_nil (n::ns) M1;have em:(!(n::ns).isEmpty)=true:=rfl;simp![cP,pM,int_bool,o3,e1,c0,sz,ne,em,aCz,p1,p2,m1]
 |false=>
  cases c1:(r==1)with
  |true=>
   obtain⟨t,M2,e2,t0,t1,n2⟩:=dG (m:=7) s1 (by decide) (by decide);obtain⟨d,hd,e3⟩:=xP (ds:=EO) t0 t1 M2;refine⟨d,M2,?_,⟨VI (w:=0) (m:=0) (MU d hd),LA (by decide) d hd⟩,n2.stm s1,n1.kp.trans n2.kp⟩;simp![cP,pM,int_bool,o3,e1,c0,c1,e2,aEu,e3]
  |false=>
   cases c2:(r==2)with
   |true=>
    obtain⟨t,M2,e2,t0,t1,n2⟩:=dG (m:=3) s1 (by decide) (by decide);obtain⟨d,hd,e3⟩:=xP (ds:=GD) t0 t1 M2;refine⟨d,M2,?_,⟨VI (w:=0) (m:=0) (LY d hd),LA (by decide) d hd⟩,n2.stm s1,n1.kp.trans n2.kp⟩;simp![cP,pM,int_bool,o3,e1,c0,c1,c2,e2,aFT,e3]
   |false=>
    cases c6:decide (r<6)with
    |true=>
     obtain⟨t,M2,e2,t0,t1,n2⟩:=dG (m:=6) s1 (by decide) (by decide);obtain⟨d,hd,e3⟩:=xP (ds:=QH) t0 t1 M2;refine⟨d,M2,?_,⟨VI (w:=0) (m:=0) (QZ d hd),LA (by decide) d hd⟩,n2.stm s1,n1.kp.trans n2.kp⟩;simp![cP,pM,int_bool,o3,e1,c0,c1,c2,c6,e2,aEq,e3]
    |false=>
     have r6:6<=r:=by have:=E7 c6;omega
     have k0:k≠0:=by
      intro z;subst z;have:r<9-3*(if (((0:Nat):Int)==0)=true then 1 else 0):=r1;simp at this;omega
     obtain⟨ds,M2,e2,l2,f2,s2,k2⟩:=ZP (S:=Sc ns) (k:=(k:Int)) (a:=some (I r)) (b:=none) (hself k0) s1;obtain⟨k',rfl⟩:∃k',k=k'+1:=⟨k-1,by omega⟩;have f2':∀d∈ds,Fit (Wn k') (2*k') d:=f2;have w1:3*(Wn k'+2)+3<=Wn (k'+1):=Nat.le_add_right _ _;have d1:2*k'+1<=2*(k'+1):=by omega
     cases c7:(r==6)with
     |true=>
      refine⟨.tuple ds,M2,?_,⟨(Fit.tuple f2' l2).mono w1 d1,fun l z=>by cases z;exact l2⟩,s2,n1.kp.trans k2⟩;simp![cP,pM,int_bool,o3,e1,c0,c1,c2,c6,e2,c7,aFQ]
     |false=>
      cases c8:(r==7)with
      |true=>
       refine⟨.list ds,M2,?_,⟨(Fit.list f2' l2).mono w1 d1,fun l z=>by cases z;exact l2⟩,s2,n1.kp.trans k2⟩;simp![cP,pM,int_bool,o3,e1,c0,c1,c2,c6,e2,c7,c8]
      |false=>
       have fd:=Fit.dictA (Fit.list f2' l2);refine⟨_,_,?_,⟨fd.mono (A7 _) (by omega),fun _ z=>nomatch z⟩,aAm s2,(n1.kp.trans k2).trans aBH⟩;have e3:=aBf (a:=some (.c i)) (b:=some (Sc ns)) (c:=some (I ((k'+1:Nat):Int))) (e:=some (I r)) (d:=.list ds) (M:=M2);simp![cP,pM,int_bool,o3,e1,c0,c1,c2,c6,e2,c7,c8,e3]
theorem ZZ{ns:List Int}{i:Nat}:∀(n k:Nat),k<n->∀{M:Sto},Stm M i->vD (gL n [.c i,Sc ns,I (k:Int)] M) M i (Wn k) (2*k)
 |0,_,h,_,_=>by omega
 |n+1,k,h,M,hs=>by
  show vD (fnF 3 5 (cP (gL n)) [.c i,Sc ns,I (k:Int)] M) M i (Wn k) (2*k);refine YA k _ (fun k0 M' hs'=>?_) hs;have:=ZZ (ns:=ns) n (k-1) (by omega) hs';have e:((k-1:Nat):Int)=(k:Int)-1:=by omega
  rw[e]at this;exact this
theorem cat_tup(xs ys:List PyData)(M:Sto)(h:xs.length+ys.length<=sizeLine):dW (.d (.tuple xs)) (.d (.tuple ys)) M=some (.d (.tuple (xs++ys)),M):=by
 cases xs with
 |nil=>rfl
 |cons x xs=>
  show(if (x::xs)≠[]/\(x::xs).length+ys.length<=sizeLine then some (CD.d (.tuple ((x::xs)++ys)),M)else none)=_;rw[A4 ⟨by simp,h⟩]
theorem uM{α:Type}{xs:List α}{lo hi:Option Int}{x:α}(h:x∈fS xs lo hi):x∈xs:=List.mem_of_mem_drop (List.mem_of_mem_take h)
theorem FB{α:Type}(xs:List α)(lo hi:Option Int):(fS xs lo hi).length<=xs.length:=by
 unfold fS;rw[Y1,Y2];omega
theorem slT(xs:List PyData)(lo hi:Option Int)(M:Sto):slF (.d (.tuple xs)) lo hi M=some (.d (.tuple (fS xs lo hi)),M):=rfl
theorem QK(i:Int):asI (I i)=some i:=rfl
theorem aGm{ds:List PyData}(h0:0<=r)(h1:r<ds.length)(M:Sto):∃d∈ds,ixF (.d (.tuple ds)) (I r) M=some (.d d,M):=by
 have hlt:r.toNat<ds.length:=by omega
 have hd:ds[r.toNat]?=some ds[r.toNat]:=B1 hlt
 have e:atI ds r=some ds[r.toNat]:=by
  have:=uW hd
  rwa [Z0 h0]at this
 refine⟨_,J8 hlt,?_⟩;unfold ixF;dsimp only;show(some ds).bind _=_;rw[A1,e];rfl
noncomputable def aCl:List PyData:=[.none,(.bool true),(.bool false),(.int (-1)),(.int 0),(.int 1),(.int 40),(.int 1000000000001),(.str ""),(.str "1"),(.tuple []),(.tuple [(.int 1),(.int 2)]),(.tuple [(.int 2),(.int 2)]),(.tuple [(.int 0),(.int 2)]),(.tuple [(.int 1),(.int 13)]),(.dict [])]
theorem aEm(γ:Ga)(M:Sto):rZ γ M=some (.d (.list aCl),M):=rfl
theorem qR(ha:a.natAbs<2 ^ 200)(hb:b.natAbs<2 ^ 200):Fit 4100 1 (.tuple [.int a,.int b]):=
 (Fit.tuple (w:=2000) (m:=0) (k:=2) (ds:=[.int a,.int b]) (fun d hd=>by
  simp only[List.mem_cons,List.not_mem_nil,or_false]at hd;rcases hd with rfl|rfl
  .exact Fit.int (cY ha)
  .exact Fit.int (cY hb)) (A7 _)).mono (by decide) (A7 _)
theorem aAb:∀d∈aCl,Fit 4100 1 d:=by
 intro d hd;unfold aCl at hd;simp only[List.mem_cons,List.not_mem_nil,or_false]at hd;rcases hd with rfl|rfl|rfl|rfl|rfl|rfl|rfl|rfl|rfl|rfl|rfl|rfl|rfl|rfl|rfl|rfl
 .exact⟨rfl,by decide,by decide⟩
 .exact⟨rfl,by decide,by decide⟩
 .exact⟨rfl,by decide,by decide⟩
 .exact(Fit.int (cY (by decide))).mono (by decide) (by decide)
 .exact(Fit.int (cY (by decide))).mono (by decide) (by decide)
 .exact(Fit.int (cY (by decide))).mono (by decide) (by decide)
 .exact(Fit.int (cY (by decide))).mono (by decide) (by decide)
 .exact(Fit.int (cY (by decide))).mono (by decide) (by decide)
 .exact⟨rfl,by decide +kernel,by decide⟩
 .exact⟨rfl,by decide +kernel,by decide⟩
 .exact⟨rfl,by decide,by decide⟩
 .exact qR (by decide) (by decide)
 .exact qR (by decide) (by decide)
 .exact qR (by decide) (by decide)
 .exact qR (by decide) (by decide)
 .exact⟨rfl,by decide,by decide⟩
structure Row(n:Nat)(ds:List PyData):Prop where
 fit:∀d∈ds,Fit 4100 1 d
 len:ds.length<=n
theorem aFy{n:Nat}(h:Stm M i)(hr:Row n ds)(h0:0<ds.length)(hn:n<=100):∃es M',eZ [.c i,.d (.tuple ds)] M=some (.d (.tuple es),M')/\Row (2*n+1) es/\Nxt i M M':=by
 have hl:=hr.len;obtain⟨p,M1,e1,p0,p1,n1⟩:=dG (m:=(ds.length:Int)) h (by omega) (by omega);have s1:=n1.stm h;obtain⟨c,M2,e2,c0,c1,n2⟩:=dG (m:=4) s1 (by decide) (by decide);have s2:=n2.stm s1;have hlen:mB [.d (.tuple ds)] M=some (I ds.length,M):=rfl;have big:sizeLine=16777216:=D5;have l1:=FB ds none (some p);have l2:=FB ds (some (p+1)) none;have l3:=FB ds (some p) none;have sz1:(1:Nat)<=sizeLine:=by decide
 cases k0:(c==0)with
 |true=>
  refine⟨fS ds none (some p)++fS ds (some (p+1)) none,M2,?_,⟨fun d hd=>?_,by rw[B2];omega⟩,n1.trans n2⟩
  .have e3:=cat_tup (fS ds none (some p)) (fS ds (some (p+1)) none) M2 (by omega);simp![eZ,iN,fSl,eO,lB,hlen,e1,e2,pM,k0,slT,QK,tM,e3]
  .rcases List.mem_append.mp hd with hd|hd<;>exact hr.fit d (uM hd)
 |false=>
  cases k1:(c==1)with
  |true=>
   obtain⟨y,hy,e4⟩:=aGm p0 p1 M2;refine⟨(fS ds none (some p)++[y])++fS ds (some p) none,M2,?_,⟨fun d hd=>?_,by rw[B2,B2];simp only[List.length_singleton];omega⟩,n1.trans n2⟩
   .have e3:=cat_tup (fS ds none (some p)) [y] M2 (by simp only[List.length_singleton];omega);have e5:=cat_tup (fS ds none (some p)++[y]) (fS ds (some p) none) M2 (by rw[B2];simp only[List.length_singleton];omega);simp![eZ,iN,fSl,eO,lB,hlen,e1,e2,pM,k0,k1,slT,QK,tM,e4,sz1,e3,e5]
   .rcases List.mem_append.mp hd with hd|hd
    .rcases List.mem_append.mp hd with hd|hd
     .exact hr.fit d (uM hd)
     .rw[List.mem_singleton.mp hd];exact hr.fit y hy
    .exact hr.fit d (uM hd)
  |false=>
   obtain⟨q,M3,e4,q0,q1,n3⟩:=dG (m:=16) s2 (by decide) (by decide);obtain⟨y,hy,e5⟩:=xP (ds:=aCl) q0 q1 M3;refine⟨(fS ds none (some p)++[y])++fS ds (some (p+1)) none,M3,?_,⟨fun d hd=>?_,by rw[B2,B2];simp only[List.length_singleton];omega⟩,(n1.trans n2).trans n3⟩
   .have e3:=cat_tup (fS ds none (some p)) [y] M3 (by simp only[List.length_singleton];omega);have e6:=cat_tup (fS ds none (some p)++[y]) (fS ds (some (p+1)) none) M3 (by rw[B2];simp only[List.length_singleton];omega);simp![eZ,iN,fSl,eO,lB,hlen,e1,e2,pM,k0,k1,slT,QK,tM,aEm,e4,e5,sz1,e3,e6]
   .rcases List.mem_append.mp hd with hd|hd
    .rcases List.mem_append.mp hd with hd|hd
     .exact hr.fit d (uM hd)
     .rw[List.mem_singleton.mp hd];exact aAb y hy
    .exact hr.fit d (uM hd)
theorem Rds.int{y:CD}(h:Rds M y (.int a)):y=I a:=by
 cases y with
 |d z=>rw[Rds,hZ]at h;cases h;rfl
 |c i=>
  unfold Rds snap at h;cases e:M[i]? with
  |none=>rw[e]at h;cases h
  |some c=>
   rw[e]at h;cases c with
   |lst xs=>obtain⟨es,_,h⟩:=aG (show(cL 4 M xs).bind _=_ from h);cases h
   |_=>cases h
 |f kvs=>unfold Rds snap at h;cases h
 |t xs=>unfold Rds snap at h;obtain⟨es,_,h⟩:=aG h;cases h
theorem Rds.at{d:PyData}{j:Nat}(h:Rds M x d)(hd:bJ d=some ds)(hj:ds[j]?=some (.int a)):ixF x (I j) M=some (I a,M):=by
 obtain⟨y,h1,h2⟩:=(h.items hd).2 j _ hj;rw[h1,h2.int]
theorem qL:dH [I a] M=some (B true,M):=iF _ _
theorem pJ{d:PyData}(h:Rds M x d)(hd:bJ d=some [.int a,.int b])(hw:eP a b=true):cD [x] M=some (B true,M):=by
 unfold eP at hw;simp only[Bool.and_eq_true,decide_eq_true_eq]at hw;obtain⟨⟨⟨⟨a0,b1⟩,b2⟩,b3⟩,a1⟩:=hw;have i0:ixF x (I 0) M=some (I a,M):=h.at hd (j:=0) rfl;have i1:ixF x (I 1) M=some (I b,M):=h.at hd (j:=1) rfl;have r2:dE [x,I 2] M=some (B true,M):=qG 2 h hd;have g0:(decide (a>=0))=true:=by simpa using a0
 have g1:(decide (b>=1))=true:=by simpa using b1
 have n1:bB [x] M=some (B true,M):=by
  simp![bB,bL,r2,i0,i1,qL,g0,g1]
 have p1:cA [x] M=some (B true,M):=by
  have mo:mO 55440 b=true:=fG (by omega);have cm:=IC (a:=a) (b:=b) M a0 (by omega)
  have b3':(((Int.gcd a b:Nat):Int)==1)=true:=by
   have:Int.gcd a b=1:=by simpa using b3
   rw[this];rfl
  simp![cA,dF,n1,i0,i1,mo,xE,b2,cm,b3']
 have l1:(decide (a<=1000000000000))=true:=by simpa using a1
 simp![cD,gN,p1,i0,l1]
noncomputable def aIY(n:Int)(d:PyData)(i j a b:Int):Prop:=∃w,bJ d=some [.int i,.int j,w]/\bJ w=some [.int a,.int b]/\eP a b=true/\0<=i/\i<j/\j<n
theorem KH{d:PyData}{i:Int}(h:Rds M x d)(t:aIY n d i j a b):qO [I n,x] M=some (B true,M):=by
 obtain⟨w,hd,hw,hv,i0,ij,jn⟩:=t;have x0:ixF x (I 0) M=some (I i,M):=h.at hd (j:=0) rfl;have x1:ixF x (I 1) M=some (I j,M):=h.at hd (j:=1) rfl;obtain⟨y,x2,hy⟩:=(h.items hd).2 2 w rfl;have x2:ixF x (I 2) M=some (y,M):=x2;have r3:dE [x,I 3] M=some (B true,M):=qG 3 h hd
 have pl:∀k:Int,0<=k->k<n->eS [I n,I k] M=some (B true,M):=fun k k0 k1=>by
  have c0:decide (0<=k)=true:=C4 k0;have c1:decide (k<n)=true:=C4 k1;simp![eS,kM,qL,c0,c1]
 have ne:(!(i==j))=true:=by simp;omega
 have u:bD [I n,I i,I j] M=some (B true,M):=by
  simp![bD,cB,pl i i0 (by omega),pl j (by omega) jn,MY,ne]
 have lt:decide (i<j)=true:=C4 ij
 have bt:dJ [I n,x] M=some (B true,M):=by
  simp![dJ,fK,r3,x0,x1,u,lt]
 have wt:=pJ hy hw hv;simp![qO,BI,bt,x2,wt]
theorem fX(h:M[i]?=some c):(M++L)[i]?=some c:=by
 rw[F6 (List.getElem?_eq_some_iff.mp h).1];exact h
theorem gM:(M++[c])[M.length]?=some c:=by rw[F4 (A7 _),U7];rfl
structure Tie where
 i:Int
 j:Int
 a:Int
 b:Int
deriving DecidableEq
noncomputable def Tie.key(t:Tie):List Key:=[.inl t.i,.inl t.j]
noncomputable def Tie.val(t:Tie):CD:=.d (.tuple [.int t.a,.int t.b])
noncomputable def aV(ts:List Tie):List (List Key×CD):=ts.map fun t=>(t.key,t.val)
theorem PH{ts:List Tie}{t:Tie}(h:∀s∈ts,s.key≠t.key):lkC (aV ts) t.key=none:=by
 unfold lkC aV;rw[List.find?_map];have:List.find? ((fun kv=>decide (kv.1=t.key)) ∘ fun s:Tie=>(s.key,s.val)) ts=none:=List.find?_eq_none.mpr fun s hs=>by simpa using h s hs
 rw[this];rfl
theorem HE{ts:List Tie}{t:Tie}(h:∀s∈ts,s.key≠t.key):putD (aV ts) t.key t.val=aV (ts++[t]):=by
 unfold putD
 have:((aV ts).any fun kv=>decide (kv.1=t.key))=false:=by
  rw[aV,List.any_map];exact List.any_eq_false.mpr fun s hs=>by simpa using h s hs
 rw[this,A5 A6];unfold aV;rw[D8];rfl
theorem sz{n:Nat}(hn:n<=1000):n<=sizeLine:=by rw[D5];exact D3 hn (by decide)
theorem z0:(0:Nat)<=sizeLine:=sz (by decide)
theorem z1:(1:Nat)<=sizeLine:=sz (by decide)
theorem z2:(2:Nat)<=sizeLine:=sz (by decide)
theorem z3:(3:Nat)<=sizeLine:=sz (by decide)
theorem z5:(5:Nat)<=sizeLine:=sz (by decide)
theorem z9:(9:Nat)<=sizeLine:=sz (by decide)
theorem z10:(10:Nat)<=sizeLine:=sz (by decide)
noncomputable def TOk(n:Int)(t:Tie):Prop:=eP t.a t.b=true/\0<=t.i/\t.i<t.j/\t.j<n
noncomputable def BQ(M:Sto)(n:Int)(z:CD)(t:Tie):Prop:=TOk n t/\((∃w,z=.d (.tuple [.int t.i,.int t.j,w])/\bJ w=some [.int t.a,.int t.b])\/∃m,z=.t [.inl (.int t.i),.inl (.int t.j),.inr m]/\M[m]?=some (.lst [I t.a,I t.b]))
theorem BQ.app{t:Tie}(h:BQ M n z t):BQ (M++L) n z t:=⟨h.1,h.2.imp id fun⟨m,a,b⟩=>⟨m,a,fX b⟩⟩
theorem KI(h:M[m]?=some (.lst [I a,I b])):Rds M (.c m) (.list [.int a,.int b]):=by
 unfold Rds snap;rw[h];simp only[cL,hZ,Option.bind_some]
theorem aIn{i:Int}(h:M[m]?=some (.lst [I a,I b])):Rds M (.t [.inl (.int i),.inl (.int j),.inr m]) (.tuple [.int i,.int j,.list [.int a,.int b]]):=by
 unfold Rds snap;simp only[List.map_cons,List.map_nil,cdA,cL,hZ,Option.bind_some];unfold snap;rw[h];simp only[cL,hZ,Option.bind_some]
theorem aIM{w:PyData}(h:bJ w=some [.int a,.int b])(M:Sto):hJ [.d w] M=some (.d (.tuple [.int a,.int b]),M):=by
 cases w<;>first|(cases h;rfl)|cases h
theorem BQ.facts{t:Tie}(h:BQ M n z t):qO [I n,z] M=some (B true,M)/\ixF z (I 0) M=some (I t.i,M)/\ixF z (I 1) M=some (I t.j,M)/\∃y,ixF z (I 2) M=some (y,M)/\hJ [y] M=some (.d (.tuple [.int t.a,.int t.b]),M):=by
 obtain⟨⟨hw,i0,ij,jn⟩,⟨w,rfl,hi⟩|⟨m,rfl,hm⟩⟩:=h
 .exact⟨KH Rds.d ⟨w,rfl,hi,hw,i0,ij,jn⟩,rfl,rfl,_,rfl,aIM hi M⟩
 .refine⟨KH (aIn hm) ⟨.list [.int t.a,.int t.b],rfl,rfl,hw,i0,ij,jn⟩,rfl,rfl,.c m,rfl,?_⟩;simp only[hJ,hm];rfl
theorem RY{x k:CD}{c:Nat}{ts:List Tie}{t:Tie}(h:BQ M n z t)(hD:M[c]?=some (.dt (aV ts)))(nk:∀s∈ts,s.key≠t.key)(hl:ts.length<1000):
 iJ [some (I n),some x,some (.c c),some k,some z] M=some (.o (.nx [some (I n),some x,some (.c c),some k,some z]),M.set c (.dt (aV (ts++[t])))):=by
 obtain⟨ti,x0,x1,y,x2,tu⟩:=h.facts;have at_:atD M (.c c) (.inr t.key)=some none:=by simp only[atD,hD,PH nk]
 have len:(aV ts).length<sizeLine:=by unfold aV;rw[A9,D5];omega
 have st:uK M (.c c) (.inr t.key) (.d (.tuple [.int t.a,.int t.b]))=some (M.set c (.dt (aV (ts++[t])))):=by
  have pn:putD (aV ts) t.key (.d (.tuple [.int t.a,.int t.b]))=aV (ts++[t]):=HE nk;simp only[uK,hD,if_pos len,pn]
 have kk:keysOf [I t.i,I t.j]=some t.key:=rfl;have l2:(Tie.key t).length<=sizeLine:=sz (show 2<=1000 by decide);simp![iJ,ti,aDd,kQ,x0,x1,x2,kk,if_pos l2,at_,pG,tu,st,Option.isSome_none]
theorem rC:(M++[c]).set M.length c'=M++[c']:=by
 rw[Y0 _ _ (A7 _),U7];rfl
theorem DU{M:Sto}{n:Int}{x:CD}{P:Sto->Prop}(hP:∀L,P (M++L)):∀{zs:List CD}{us:List Tie}(ts:List Tie)(k:Nat)(g3 g4:Option CD),Paired (BQ M n) zs us->((ts++us).map Tie.key).Nodup->ts.length+us.length<1000->
 ∃g3' g4',oA P (bZ (hName 3) (bZ (hName 4) oR)) iJ k zs [some (I n),some x,some (.c M.length),g3,g4] (M++[.dt (aV ts)])=some (.o (.nx [some (I n),some x,some (.c M.length),g3',g4']),M++[.dt (aV (ts++us))])
 |_,_,ts,k,g3,g4,.nil=>fun _ _=>⟨g3,g4,by unfold oA;rw[A4 (hP _),C6]⟩
 |z::zs,t::us,ts,k,g3,g4,.cons r1 r2=>fun nd hl=>by
  have nk:∀s∈ts,s.key≠t.key:=fun s hs q=>by
   rw[D8,O4]at nd;exact nd.2.2 _ (J0 hs) _ (by rw[C3];exact B5) q
  have hl':ts.length<1000:=by omega
  have turn:=RY (x:=x) (k:=I (k:Nat)) (r1.app (L:=[.dt (aV ts)])) gM nk hl';rw[rC]at turn;obtain⟨a,b,ih⟩:=DU (x:=x) hP (ts++[t]) (k+1) (some (I (k:Nat))) (some z) r2 (by rw[C1];exact nd) (by rw[B2];simp only[List.length_cons,List.length_nil]at hl ⊢;omega);refine⟨a,b,?_⟩;unfold oA;rw[A4 (hP _)];have g1:bZ (hName 3) (bZ (hName 4) oR) [.d (.int k),z] [some (I n),some x,some (.c M.length),g3,g4] (M++[.dt (aV ts)])=some ([some (I n),some x,some (.c M.length),some (I (k:Nat)),some z],M++[.dt (aV ts)]):=rfl;rw[g1,A1];dsimp only;rw[turn,A1];dsimp only;rw[ih,C1];rfl
structure BU(M:Sto)(n:Int)(x:CD)(us:List Tie):Prop where
 ex:∃zs P,(∀L,walked (M++L) x=some (zs,P))/\(∀L,P (M++L))/\(∀L,iQ [x] (M++L)=some (B true,M++L))/\Paired (BQ M n) zs us
theorem BU.app(h:BU M n x us):BU (M++L) n x us:=by
 obtain⟨zs,P,h1,h2,h3,h4⟩:=h.ex;exact⟨zs,P,fun K=>by rw[C1];exact h1 _,fun K=>by rw[C1];exact h2 _,fun K=>by rw[C1];exact h3 _,Paired.mapP h4 fun _ _ r=>r.app⟩
noncomputable def Tie.lt(s t:Tie):Prop:=s.i<t.i\/(s.i=t.i/\s.j<t.j)
instance(s t:Tie):Decidable (Tie.lt s t):=by unfold Tie.lt;infer_instance
theorem key_ne{s t:Tie}(h:s.key≠t.key):¬(s.i=t.i/\s.j=t.j):=fun⟨a,b⟩=>h (by unfold Tie.key;rw[a,b])
theorem Tie.lt_tot{s t:Tie}(h:s.key≠t.key)(n:¬Tie.lt t s):Tie.lt s t:=by
 have:=key_ne h;unfold Tie.lt at n ⊢;omega
theorem Tie.lt_tr{s t u:Tie}(h:Tie.lt s t)(k:Tie.lt t u):Tie.lt s u:=by unfold Tie.lt at h k ⊢;omega
theorem Tie.lt_ir{s:Tie}(h:Tie.lt s s):False:=by unfold Tie.lt at h;omega
theorem sN:∀{xs ys:List Tie},xs.Pairwise Tie.lt->ys.Pairwise Tie.lt->xs.Perm ys->xs=ys
 |[],ys=>fun _ _ p=>(List.nil_perm.mp p).symm
 |x::xs,[]=>fun _ _ p=>absurd p.length_eq (by simp)
 |x::xs,y::ys=>fun hx hy p=>by
  obtain⟨x1,x2⟩:=List.pairwise_cons.mp hx;obtain⟨y1,y2⟩:=List.pairwise_cons.mp hy
  have e:x=y:=by
   have mx:x∈y::ys:=p.mem_iff.mp B5;have my:y∈x::xs:=p.mem_iff.mpr B5;rcases List.mem_cons.mp mx with e|mx
   .exact e
   .rcases List.mem_cons.mp my with e|my
    .exact e.symm
    .exact(Tie.lt_ir (Tie.lt_tr (x1 y my) (y1 x mx))).elim
  subst e;rw[sN x2 y2 (List.perm_cons x |>.mp p)]
structure IT(f:Tie->List PyData):Prop where
 sh:∀t,(f t).all SeqAt.shaped=true
 on:∀t,cJ (f t)=true
 hd:∀us:List Tie,(iO (us.map f) || oF (us.map f))=true
 lt:∀s t,s.key≠t.key->cQ (f s) (f t)=some (decide (Tie.lt s t))
 eq:∀s,(cQ (f s) (f s)).isSome=true
noncomputable def f1(t:Tie):List PyData:=[.tuple [.int t.i,.int t.j],.tuple [.int t.a,.int t.b]]
noncomputable def f2(t:Tie):List PyData:=[.int t.i,.int t.j,.tuple [.int t.a,.int t.b]]
theorem FL:PyData.eqv (.int a) (.int b)=(a==b):=rfl
theorem ET{c d:Int}:PyData.eqv (.tuple [.int a,.int b]) (.tuple [.int c,.int d])=(a==c&&(b==d&&true)):=rfl
theorem rf1:IT f1:=by
 refine⟨fun t=>rfl,fun t=>rfl,fun us=>?_,fun s t h=>?_,fun s=>?_⟩
 .rw[Bool.or_eq_true];exact .inr (by unfold oF;rw[List.all_map];exact List.all_eq_true.mpr fun t _=>rfl)
 .have k:=key_ne h
  have e:(s.i==t.i&&(s.j==t.j&&true))=false:=by
   rw[Bool.and_true,Bool.and_eq_false_iff];by_cases q:s.i=t.i
   .exact .inr (by simpa using fun z=>k ⟨q,z⟩)
   .exact .inl (by simpa using q)
  unfold f1 cQ;rw[ET,e,A5 A6];show some (HT.lexLt [s.i,s.j] [t.i,t.j])=_;congr 1;rw[HT.lexLt_cons,HT.lexLt_cons];by_cases q:s.i=t.i
  .have q':¬s.j=t.j:=fun z=>k ⟨q,z⟩;rw[A4 q,A5 q'];simp[Tie.lt,q]
  .rw[A5 q];simp[Tie.lt,q]
 .unfold f1 cQ;rw[ET];simp only[beq_self_eq_true,Bool.and_true,if_true];unfold cQ;rw[ET];simp only[beq_self_eq_true,Bool.and_true,if_true];rfl
theorem rf2:IT f2:=by
 refine⟨fun t=>rfl,fun t=>rfl,fun us=>?_,fun s t h=>?_,fun s=>?_⟩
 .rw[Bool.or_eq_true];exact .inl (by unfold iO;rw[List.all_map];exact List.all_eq_true.mpr fun t _=>rfl)
 .have k:=key_ne h;unfold f2 cQ;rw[FL];by_cases q:s.i=t.i
  .have q':¬s.j=t.j:=fun z=>k ⟨q,z⟩;have e1:(s.i==t.i)=true:=by simpa using q
   have e2:(s.j==t.j)=false:=by simpa using q'
   rw[e1,A4 rfl];unfold cQ;rw[FL,e2,A5 A6];show some (decide (s.j<t.j))=_;simp[Tie.lt,q]
  .have e1:(s.i==t.i)=false:=by simpa using q
   rw[e1,A5 A6];show some (decide (s.i<t.i))=_;simp[Tie.lt,q]
 .unfold f2 cQ;rw[FL];simp only[beq_self_eq_true,if_true];unfold cQ;rw[FL];simp only[beq_self_eq_true,if_true];unfold cQ;rw[ET];simp only[beq_self_eq_true,Bool.and_true,if_true];rfl
theorem AO{f:Tie->List PyData}(h:i<us.length):(us.map f).getD i []=f us[i]:=by
 rw[C0,D6,B1 h];rfl
theorem aDf(nd:(us.map Tie.key).Nodup){j:Nat}(hi:i<us.length)(hj:j<us.length)(h:i≠j):us[i].key≠us[j].key:=fun q=>by
 have:=(List.getElem_inj (h₀:=by rw[A9];exact hi) (h₁:=by rw[A9];exact hj) nd).mp (by rw[List.getElem_map,List.getElem_map];exact q);exact h this
theorem aIv{f:Tie->List PyData}(R:IT f)(nd:(us.map Tie.key).Nodup)(h2:2<=us.length)(h64:us.length<64):sortable (us.map f)=true:=by
 unfold sortable;rw[A9,C4 h2,C4 h64,R.hd us,Bool.true_and,Bool.true_and,Bool.and_true,B3];refine⟨List.all_eq_true.mpr fun r hr=>?_,List.all_eq_true.mpr fun i hi=>List.all_eq_true.mpr fun j hj=>?_⟩
 .obtain⟨t,_,rfl⟩:=List.mem_map.mp hr;rw[R.sh,R.on];rfl
 .have hi:=List.mem_range.mp hi;have hj:=List.mem_range.mp hj;rw[AO hi,AO hj];by_cases q:i=j
  .subst q;exact R.eq _
  .rw[R.lt _ _ (aDf nd hi hj q)];rfl
theorem aCC{f:Tie->List PyData}(R:IT f){j:Nat}(hi:i<us.length)(hj:j<us.length)(k:us[i].key≠us[j].key):dX (us.map f) i j=decide (Tie.lt us[i] us[j]):=by
 unfold dX;rw[AO hi,AO hj,R.lt _ _ k];rfl
noncomputable def t0:Tie:=⟨0,0,0,0⟩
theorem TJ(us:List Tie):(List.range us.length).map (fun i=>us.getD i t0)=us:=by
 refine List.ext_getElem? fun i=>?_;rw[D6];by_cases h:i<us.length
 .rw[List.getElem?_range h,B1 h];show some (us.getD i t0)=_;rw[C0,B1 h];rfl
 .rw[List.getElem?_eq_none (by rw[List.length_range];omega),List.getElem?_eq_none (by omega)];rfl
theorem NR(h:i<us.length):us.getD i t0=us[i]:=by
 rw[C0,B1 h];rfl
theorem EG{f:Tie->List PyData}(R:IT f)(nd:(us.map Tie.key).Nodup)(h64:us.length<64):∃vs:List Tie,vs.Perm us/\vs.Pairwise Tie.lt/\pP (us.map f)=some (vs.map fun t=>.tuple (f t))/\(2<=us.length->DC (us.map f)=vs.map fun t=>.tuple (f t))/\(us.length<2->vs=us):=by
 by_cases h2:2<=us.length
 .have ab:=aIv R nd h2 h64;have pm:=lO (n:=(us.map f).length) (dX (us.map f)) (by rw[A9];omega);have so:=CT ab;rw[A9]at pm so;have mem:∀i∈dB (dX (us.map f)) us.length,i<us.length:=fun i hi=>List.mem_range.mp (pm.mem_iff.mp hi)
  have sd:DC (us.map f)=((dB (dX (us.map f)) us.length).map fun i=>us.getD i t0).map fun t=>.tuple (f t):=by
   unfold DC;rw[A9,S3];refine Z1 fun i hi=>?_;show PyData.tuple ((us.map f).getD i [])=.tuple (f (us.getD i t0));rw[AO (mem i hi),NR (mem i hi)]
  refine⟨(dB (dX (us.map f)) us.length).map fun i=>us.getD i t0,?_,?_,?_,fun _=>sd,fun q=>by omega⟩
  .have:=pm.map fun i=>us.getD i t0
   rwa [TJ]at this
  .rw[List.pairwise_map];have nd2:(dB (dX (us.map f)) us.length).Nodup:=pm.nodup_iff.mpr List.nodup_range;have len:(dB (dX (us.map f)) us.length).length=us.length:=by rw[pm.length_eq,List.length_range]
   rw[List.pairwise_iff_getElem];intro a b ha hb hab;have hx:=mem _ (J8 ha);have hy:=mem _ (J8 hb)
   have g:∀c (hc:c<(dB (dX (us.map f)) us.length).length),(RN (dX (us.map f)) (PySem.W.kas_sort us.length)).getD c 0=(dB (dX (us.map f)) us.length)[c]:=fun c hc=>by
    unfold dB at hc ⊢;rw[S5]at hc;simp[Array.getD,hc]
   have s1:=so a b hab (by rw[<- len];exact hb);rw[g a ha,g b hb]at s1
   have ne:(dB (dX (us.map f)) us.length)[b]≠(dB (dX (us.map f)) us.length)[a]:=fun q=>by
    have:=(List.getElem_inj nd2).mp q;omega
   have kn:=aDf nd hy hx ne;rw[aCC R hy hx kn]at s1;rw[NR hx,NR hy];exact Tie.lt_tot (F0 kn) (E7 s1)
  .unfold pP;rw[ab,A4 rfl,sd]
 .have hl:us.length<2:=by omega
  refine⟨us,.refl _,?_,?_,fun q=>absurd q h2,fun _=>rfl⟩
  .rcases us with _|⟨t,_|⟨u,r⟩⟩
   .exact .nil
   .exact List.pairwise_singleton _ _
   .simp only[List.length_cons]at hl;omega
  .unfold pP
   have:sortable (us.map f)=false:=by
    unfold sortable;rw[A9,B8 h2];rfl
   rw[this,A5 A6,A9,A4 hl,S3];rfl
noncomputable def big(t:Tie):Bool:=decide (t.a > 0)
noncomputable def bT(vs:List Tie):List PyData:=(vs.filter big).map fun t=>.tuple (f2 t)
theorem GQ{cap:List (Option Nat)}{f:AF}{c:TF}{M1 M2:Sto}{xs:List CD}(it:f γ M=some (xs,M1))(hl:xs.length<=sizeLine)(e:lcF g c ee xs (qN cap γ) M1=some (ds.map .d,M2))(hd:ds.length<=sizeLine):fLc cap f g c ee γ M=some (.d (.list ds),M2):=by
 have h1:mS cap f g c ee γ M=some (ds.map .d,M2):=by
  unfold mS;rw[it,A1,A4 hl];exact e
 show(mS cap f g c ee γ M).bind _=_;rw[h1,A1,mM,A1,A4 hd]
noncomputable abbrev kG:GF:=sJ 2 (bZ (sJ 2 (bZ (hName 0) (bZ (hName 1) oR))) (bZ (hName 2) oR))
noncomputable abbrev kC:TF:=gB (fOp gtI (fOp ixF (aD 2) (fC (.int 0))) (fC (.int 0)))
noncomputable abbrev kE:EF:=bR (aB (aD 0) (aB (aD 1) (aB (aD 2) aI)))
theorem DO{M:Sto}:∀(vs:List Tie)(s1 s2 s3:Option CD),lcF kG kC kE (vs.map fun t=>.d (.tuple (f1 t))) [s1,s2,s3] M=some ((bT vs).map .d,M)
 |[]=>fun _ _ _=>rfl
 |t::vs=>fun s1 s2 s3=>by
  have ih:=DO (M:=M) vs (some (I t.i)) (some (I t.j)) (some (.d (.tuple [.int t.a,.int t.b])));have g1:kG (.d (.tuple (f1 t))) [s1,s2,s3] M=some ([some (I t.i),some (I t.j),some (.d (.tuple [.int t.a,.int t.b]))],M):=rfl;have c1:kC [some (I t.i),some (I t.j),some (.d (.tuple [.int t.a,.int t.b]))] M=some (big t,M):=rfl
  have e1:kE [some (I t.i),some (I t.j),some (.d (.tuple [.int t.a,.int t.b]))] M=some (.d (.tuple (f2 t)),M):=by
   have l3:3<=sizeLine:=sz (by decide);simp![kE,f2,if_pos l3,Nat.zero_add]
  rw[C3];unfold lcF;rw[g1,A1];dsimp only;rw[c1,A1];dsimp only;by_cases hb:big t=true
  .rw[A4 hb,e1,A1];dsimp only;rw[ih,A1];unfold bT;rw[U2 hb];rfl
  .rw[A5 hb,ih];unfold bT;rw[U3 hb]
theorem AW:∀us:List Tie,yC (aV us)=some (us.map fun t=>(t.key,.tuple [.int t.a,.int t.b]))
 |[]=>rfl
 |t::us=>by
  show(yC (aV us)).bind _=_;rw[AW us];rfl
theorem aBt(us:List Tie):(us.map fun t=>(t.key,PyData.tuple [.int t.a,.int t.b])).map IQ=us.map f1:=by
 rw[S3];rfl
theorem YL(h:vs.length<=1000):(bT vs).length<=sizeLine:=by
 unfold bT;rw[A9];exact sz (D3 (E8 ..) h)
theorem aDZ(h:BU M n x us)(nd:(us.map Tie.key).Nodup)(h64:us.length<64):
 ∃vs:List Tie,vs.Perm us/\vs.Pairwise Tie.lt/\iV [I n,x] M=some (.v (.d (.tuple (bT vs))),M++[.dt (aV us)]):=by
 obtain⟨vs,pm,pw,sr,_⟩:=EG rf1 nd h64;refine⟨vs,pm,pw,?_⟩;obtain⟨zs,P,hw,hP,hr,pr⟩:=h.ex;obtain⟨g3,g4,lp⟩:=DU (x:=x) hP [] 0 none none pr (by rw[U0];exact nd) (by simp only[List.length_nil];omega);rw[U0]at lp;have hw':=hw [.dt (aV [])];have rw1:=hr [];rw[C6]at rw1;have hD:(M++[.dt (aV us)])[M.length]?=some (.dt (aV us)):=gM;have lv:vs.length<64:=by rw[pm.length_eq];exact h64
 have it:dA (vR (aD 2)) [some (I n),some x,some (.c M.length),g3,g4] (M++[.dt (aV us)])=some (vs.map fun t=>.d (.tuple (f1 t)),M++[.dt (aV us)]):=by
  have s1:vR (aD 2) [some (I n),some x,some (.c M.length),g3,g4] (M++[.dt (aV us)])=some (.d (.list (vs.map fun t=>.tuple (f1 t))),M++[.dt (aV us)]):=by
   simp![vR,hD,AW,aBt,sr]
  unfold dA;rw[s1,A1];show(some (vs.map fun t=>PyData.tuple (f1 t))).bind _=_;rw[A1,S3];rfl
 have cp:mC [some (I n),some x,some (.c M.length),g3,g4] (M++[.dt (aV us)])=some (.d (.list (bT vs)),M++[.dt (aV us)]):=by
  unfold mC;exact GQ it (sz (by rw[A9];omega)) (DO vs none none none) (YL (by omega))
 have tf:hJ [.d (.list (bT vs))] (M++[.dt (aV us)])=some (.d (.tuple (bT vs)),M++[.dt (aV us)]):=rfl;have k0:(M++[Cell.dt []])=M++[.dt (aV [])]:=rfl;simp![iV,qV,rw1,GU,k0,ES,hw',lp,cp,tf]
noncomputable def aL(us:List Tie):List PyData:=us.map fun t=>.tuple (f2 t)
noncomputable def Ok(n:Int)(us:List Tie):Prop:=(∀t∈us,eP t.a t.b=true/\0<=t.i/\t.i<t.j/\t.j<n)/\(us.map Tie.key).Nodup/\us.length<64
theorem OL{t:Tie}(h:eP t.a t.b=true):(!(t.a==0&&(t.b==1&&true)))=big t:=by
 have hb:=IG h;unfold eP at h;simp only[Bool.and_eq_true,beq_iff_eq]at h;have g:Int.gcd t.a t.b=1:=h.1.2;unfold big;by_cases q:t.a=0
 .have:t.b=1:=by
   rw[q,Int.gcd_zero_left]at g;omega
  rw[q,this];rfl
 .have e:(t.a==0)=false:=by simpa using q
  have:t.a > 0:=by omega
  rw[e,C4 this];rfl
theorem HY{M:Sto}:∀(us:List Tie)(s:Option CD),(∀t∈us,eP t.a t.b=true)->lcF (hName 0) (gB (fOp (eqX true) (fOp ixF (aD 0) (fC (.int 2))) mY)) (aD 0) ((aL us).map .d) [s] M=some ((aL (us.filter big)).map .d,M)
 |[]=>fun _ _=>rfl
 |t::us=>fun s hw=>by
  have ih:=HY (M:=M) us (some (.d (.tuple (f2 t)))) fun u hu=>hw u (B4 _ hu)
  have c1:gB (fOp (eqX true) (fOp ixF (aD 0) (fC (.int 2))) mY) [some (.d (.tuple (f2 t)))] M=some (big t,M):=by
   rw[<- OL (hw t B5)];rfl
  show lcF _ _ _ (.d (.tuple (f2 t))::(aL us).map .d) [s] M=_;unfold lcF;rw[show hName 0 (.d (.tuple (f2 t))) [s] M=some ([some (.d (.tuple (f2 t)))],M)from rfl,A1];dsimp only;rw[c1,A1];dsimp only;by_cases hb:big t=true
  .rw[A4 hb,show aD 0 [some (.d (.tuple (f2 t)))] M=some (.d (.tuple (f2 t)),M)from rfl,A1];dsimp only;rw[ih,A1,U2 hb];rfl
  .rw[A5 hb,ih,U3 hb]
theorem xC:∀us:List Tie,rowsOf (aL us)=some (us.map f2)
 |[]=>rfl
 |t::us=>by
  show(rowsOf (aL us)).bind _=_;rw[xC us];rfl
theorem jY(nd:(us.map Tie.key).Nodup):((us.filter big).map Tie.key).Nodup:=(List.filter_sublist.map Tie.key).nodup nd
theorem aDv(ok:Ok n us)(pm:(vs.filter big).Perm (us.filter big))(pw:vs.Pairwise Tie.lt):gG [.d (.list (aL us))] M=some (.d (.tuple (bT vs)),M):=by
 obtain⟨hw,nd,h64⟩:=ok;have fl:(us.filter big).length<=us.length:=E8 ..;obtain⟨ws,pm2,pw2,_,s2,s3⟩:=EG rf2 (jY nd) (by omega);have e:ws=vs.filter big:=sN pw2 (pw.filter _) (pm2.trans pm.symm)
 have c1:nI [some (.d (.list (aL us)))] M=some (.d (.list (aL (us.filter big))),M):=by
  unfold nI;have len:∀l:List Tie,(aL l).length=l.length:=fun l=>by rw[aL,A9]
  exact GQ (M1:=M) (xs:=(aL us).map .d) rfl (sz (by rw[A9,len];omega)) (HY us none fun t ht=>(hw t ht).1) (sz (by rw[len];omega))
 have so:sX [.d (.list (aL (us.filter big)))] M=some (.d (.list (bT vs)),M):=by
  have len:(aL (us.filter big)).length=(us.filter big).length:=by rw[aL,A9]
  by_cases h2:(us.filter big).length<2
  .have:ws=us.filter big:=s3 h2;have e2:aL (us.filter big)=bT vs:=by unfold aL bT;rw[<- e,this]
   rw[<- e2];simp only[sX,AK,if_pos (show(aL (us.filter big)).length<2 by rw[len];exact h2)]
  .have ab:=aIv rf2 (jY nd) (by omega) (by omega);have s4:=s2 (by omega)
   have s5:xR [.d (.list (aL (us.filter big)))] M=some (.d (.list (bT vs)),M):=by
    show(rowsOf (aL (us.filter big))).bind _=_;rw[xC,A1,A4 ab,s4,e];rfl
   simp only[sX,AK,if_neg (show ¬(aL (us.filter big)).length<2 by rw[len];omega),s5]
 have tf:hJ [.d (.list (bT vs))] M=some (.d (.tuple (bT vs)),M):=rfl;simp![gG,sW,c1,so,tf]
theorem HU{N:Sto}:∀(ws ts:List Tie)(s1 s2 s3:Option CD),((ts++ws).map Tie.key).Nodup->ts.length+ws.length<1000->
 dcF N.length (sJ 3 (bZ (hName 0) (bZ (hName 1) (bZ (hName 2) oR)))) rN (kQ (aB (aD 0) (aB (aD 1) aI))) (aD 2) ((aL ws).map .d) [s1,s2,s3] (N++[.dt (aV ts)])=some (N++[.dt (aV (ts++ws))])
 |[]=>fun ts _ _ _ _ _=>by rw[C6];rfl
 |t::ws=>fun ts s1 s2 s3 nd hl=>by
  have nk:∀s∈ts,s.key≠t.key:=fun s hs q=>by
   rw[D8,O4]at nd;exact nd.2.2 _ (J0 hs) _ (by rw[C3];exact B5) q
  have ih:=HU (N:=N) ws (ts++[t]) (some (I t.i)) (some (I t.j)) (some t.val) (by rw[C1];exact nd) (by rw[B2];simp only[List.length_cons,List.length_nil]at hl ⊢;omega);have hD:(N++[.dt (aV ts)])[N.length]?=some (.dt (aV ts)):=by rw[F4 (A7 _),U7];rfl
  have len:(aV ts).length<sizeLine:=by unfold aV;rw[A9,D5];omega
  have st:uK (N++[.dt (aV ts)]) (.c N.length) (.inr t.key) t.val=some (N++[.dt (aV (ts++[t]))]):=by
   simp only[uK,hD,if_pos len,HE nk];rw[Y0 _ _ (A7 _),U7];rfl
  have l2:(Tie.key t).length<=sizeLine:=sz (show 2<=1000 by decide)
  have kf:kQ (aB (aD 0) (aB (aD 1) aI)) [some (I t.i),some (I t.j),some t.val] (N++[.dt (aV ts)])=some (.inr t.key,N++[.dt (aV ts)]):=by
   have kk:keysOf [I t.i,I t.j]=some t.key:=rfl;simp![kQ,kk,if_pos l2]
  show dcF _ _ _ _ _ (.d (.tuple (f2 t))::(aL ws).map .d) [s1,s2,s3] _=_;unfold dcF;rw[show sJ 3 (bZ (hName 0) (bZ (hName 1) (bZ (hName 2) oR))) (.d (.tuple (f2 t))) [s1,s2,s3] (N++[.dt (aV ts)])=some ([some (I t.i),some (I t.j),some t.val],N++[.dt (aV ts)])from rfl,A1];dsimp only;rw[show rN [some (I t.i),some (I t.j),some t.val] (N++[.dt (aV ts)])=some (true,N++[.dt (aV ts)])from rfl,A1];dsimp only;rw[A4 rfl,kf,A1];dsimp only;rw[show aD 2 [some (I t.i),some (I t.j),some t.val] (N++[.dt (aV ts)])=some (t.val,N++[.dt (aV ts)])from rfl,A1];dsimp only;rw[st,A1,ih,C1];rfl
noncomputable def XT(w:Nat)(n:Int)(vs:List Tie):Cell:=.obj "Web" [("many",I n),("ties",.d (.tuple (bT vs))),("weights",.c (w+2))]
noncomputable def FI(w:Nat)(n:Int)(us vs:List Tie):List Cell:=[XT w n vs,.dt (aV us),.dt (aV (vs.filter big))]
theorem LH{fs:List (Str×CD)}:objOf "Web" (M++(.obj "Web" fs::L)) (.c M.length)=some (M.length,fs):=by
 have:(M++(Cell.obj "Web" fs::L))[M.length]?=some (.obj "Web" fs):=by rw[F4 (A7 _),U7];rfl
 simp only[objOf,this,if_true]
theorem NT:(M++(c::L)).set M.length c'=M++(c'::L):=by
 rw[Y0 _ _ (A7 _),U7];rfl
theorem WI(h:BU M n x us)(nd:(us.map Tie.key).Nodup)(h64:us.length<64)(n1:1<=n)(n40:n<=40):
 ∃vs:List Tie,vs.Perm us/\vs.Pairwise Tie.lt/\fB [.c M.length,I n,x] (M++[.obj "Web" []])=some (.v (.d .none),M++FI M.length n us vs):=by
 obtain⟨vs,pm,pw,k1⟩:=aDZ (h.app (L:=[.obj "Web" [("many",I n)]])) nd h64;refine⟨vs,pm,pw,?_⟩;have w1:dH [I n] (M++[.obj "Web" []])=some (B true,M++[.obj "Web" []]):=qL;have c1:decide (n<1)=false:=B8 (by omega);have c2:decide (n > 40)=false:=B8 (by omega);have o1:objOf "Web" (M++[.obj "Web" []]) (.c M.length)=some (M.length,[]):=LH;have s1:(M++[Cell.obj "Web" []]).set M.length (.obj "Web" (vU "many" (I n) []))=M++[.obj "Web" [("many",I n)]]:=NT
 have k1:iV [I n,x] (M++[.obj "Web" [("many",I n)]])=some (.v (.d (.tuple (bT vs))),M++[.obj "Web" [("many",I n)],.dt (aV us)]):=by
  rw[k1,C1];rfl
 have o2:objOf "Web" (M++[.obj "Web" [("many",I n)],.dt (aV us)]) (.c M.length)=some (M.length,([("many",I n)]:List (Str×CD))):=LH;have p2:vU "ties" (.d (.tuple (bT vs))) ([("many",I n)]:List (Str×CD))=([("many",I n),("ties",.d (.tuple (bT vs)))]:List (Str×CD)):=rfl;have s2:(M++[Cell.obj "Web" [("many",I n)],.dt (aV us)]).set M.length (.obj "Web" [("many",I n),("ties",.d (.tuple (bT vs)))])=M++[.obj "Web" [("many",I n),("ties",.d (.tuple (bT vs)))],.dt (aV us)]:=NT;have o3:∀L,objOf "Web" (M++(.obj "Web" [("many",I n),("ties",.d (.tuple (bT vs)))]::L)) (.c M.length)=some (M.length,([("many",I n),("ties",.d (.tuple (bT vs)))]:List (Str×CD))):=fun L=>LH;have lk:List.lookup ("ties":Str) [("many",I n),("ties",.d (.tuple (bT vs)))]=some (.d (.tuple (bT vs))):=rfl
 have it:dA (gF "Web" "ties" (aD 0)) [some (.c M.length),some (I n),some x] (M++[.obj "Web" [("many",I n),("ties",.d (.tuple (bT vs)))],.dt (aV us)])=some ((aL (vs.filter big)).map .d,M++[.obj "Web" [("many",I n),("ties",.d (.tuple (bT vs)))],.dt (aV us)]):=by
  have:gF "Web" "ties" (aD 0) [some (.c M.length),some (I n),some x] (M++[.obj "Web" [("many",I n),("ties",.d (.tuple (bT vs)))],.dt (aV us)])=some (.d (.tuple (bT vs)),M++[.obj "Web" [("many",I n),("ties",.d (.tuple (bT vs)))],.dt (aV us)]):=by
   simp![gF,o3,lk]
  unfold dA;rw[this];rfl
 have fl:(vs.filter big).length<=vs.length:=E8 ..;have lv:vs.length<64:=by rw[pm.length_eq];exact h64
 have nv:(vs.map Tie.key).Nodup:=(pm.map Tie.key).nodup_iff.mpr nd;have ln:(M++[Cell.obj "Web" [("many",I n),("ties",.d (.tuple (bT vs)))],.dt (aV us)]).length=M.length+2:=by rw[B2];rfl
 have wc:=HU (N:=M++[.obj "Web" [("many",I n),("ties",.d (.tuple (bT vs)))],.dt (aV us)]) (vs.filter big) [] none none none (by rw[U0];exact jY nv) (by simp only[List.length_nil];omega);rw[U0]at wc
 have dc:lU [some (.c M.length),some (I n),some x] (M++[.obj "Web" [("many",I n),("ties",.d (.tuple (bT vs)))],.dt (aV us)])=some (.c (M.length+2),M++[.obj "Web" [("many",I n),("ties",.d (.tuple (bT vs)))],.dt (aV us),.dt (aV (vs.filter big))]):=by
  unfold lU fDc;rw[it,A1];dsimp only;rw[show qN [none,none,none] [some (CD.c M.length),some (I n),some x]=[none,none,none]from rfl,show(M++[Cell.obj "Web" [("many",I n),("ties",CD.d (.tuple (bT vs)))],.dt (aV us)]++[Cell.dt []])=M++[Cell.obj "Web" [("many",I n),("ties",CD.d (.tuple (bT vs)))],.dt (aV us)]++[Cell.dt (aV [])]from rfl,wc,A1,ln,C1];rfl
 have p3:vU "weights" (.c (M.length+2)) ([("many",I n),("ties",.d (.tuple (bT vs)))]:List (Str×CD))=([("many",I n),("ties",.d (.tuple (bT vs))),("weights",.c (M.length+2))]:List (Str×CD)):=rfl;have s3:(M++[Cell.obj "Web" [("many",I n),("ties",.d (.tuple (bT vs)))],.dt (aV us),.dt (aV (vs.filter big))]).set M.length (.obj "Web" [("many",I n),("ties",.d (.tuple (bT vs))),("weights",.c (M.length+2))])=M++FI M.length n us vs:=NT;have q0:([]:List (Str×CD)).length<1000:=by decide
 have q1:([("many",I n)]:List (Str×CD)).length<1000:=by show 1<1000;decide
 have q2:([("many",I n),("ties",.d (.tuple (bT vs)))]:List (Str×CD)).length<1000:=by show 2<1000;decide
 simp![fB,oY,w1,c1,c2,JH,PU,o1,s1,k1,o2,p2,s2,dc,o3,p3,s3,if_true,if_pos q0,if_pos q1,if_pos q2,show(0:Nat)<1000 from by decide,show(0+1:Nat)<1000 from by decide,show(1:Nat)<1000 from by decide,show(2:Nat)<1000 from by decide,show(0+1+1:Nat)<1000 from by decide]
theorem aGd(hf:fa γ M=some ([I n,x],M))(h:BU M n x us)(nd:(us.map Tie.key).Nodup)(h64:us.length<64)(n1:1<=n)(n40:n<=40):
 ∃vs:List Tie,vs.Perm us/\vs.Pairwise Tie.lt/\AH "Web" fB fa γ M=some (.c M.length,M++FI M.length n us vs):=by
 obtain⟨vs,pm,pw,e⟩:=WI h nd h64 n1 n40;refine⟨vs,pm,pw,?_⟩;unfold AH;rw[hf,A1];dsimp only;rw[e,A1];rfl
theorem aFL{N:Sto}(hf:fa γ N=some ([I n,x],M))(h:BU M n x us)(nd:(us.map Tie.key).Nodup)(h64:us.length<64)(n1:1<=n)(n40:n<=40):
 ∃vs:List Tie,vs.Perm us/\vs.Pairwise Tie.lt/\IS "Web" fB fa γ N=some (.v (.c M.length),M++FI M.length n us vs):=by
 obtain⟨vs,pm,pw,e⟩:=WI h nd h64 n1 n40;refine⟨vs,pm,pw,?_⟩;unfold IS;rw[hf,A1];dsimp only;rw[e,A1];rfl
noncomputable def bW(M:Sto)(w:Nat)(n:Int)(vs:List Tie):Prop:=M[w]?=some (XT w n vs)/\M[w+2]?=some (.dt (aV (vs.filter big)))
theorem AB:bW (M++FI M.length n us vs++L) M.length n vs:=by
 constructor
 .rw[C1,F4 (A7 _),U7];rfl
 .rw[C1,F4 (Nat.le_add_right _ _),Nat.add_sub_cancel_left];rfl
theorem bW.up(h:bW M w n vs):bW (M++L) w n vs:=by
 have a1:w<M.length:=(List.getElem?_eq_some_iff.mp h.1).1;have a2:w+2<M.length:=(List.getElem?_eq_some_iff.mp h.2).1;constructor
 .rw[F6 a1];exact h.1
 .rw[F6 a2];exact h.2
noncomputable def tv(ts:List Tie)(i j:Int):CD:=(lkC (aV ts) [.inl i,.inl j]).getD (.d (.tuple [.int 0,.int 1]))
theorem aEF{fx fa:EF}{i:Int}(h:M[w]?=some (.dt (aV ts)))(ho:fo γ M=some (.c w,M))(ha:fa γ M=some (I i,M))(hb:fb γ M=some (I j,M))(hx:fx γ M=some (.d (.tuple [.int 0,.int 1]),M)):
 yQ fo (kQ (aB fa (aB fb aI))) fx γ M=some (tv ts i j,M):=by
 have k1:kQ (aB fa (aB fb aI)) γ M=some (.inr [.inl i,.inl j],M):=by
  unfold kQ;simp only[aB,aI,ha,hb,Option.bind_some];rfl
 have d1:IP M (.c w)=true:=by simp only[IP,h]
 have a1:atD M (.c w) (.inr [.inl i,.inl j])=some (lkC (aV ts) [.inl i,.inl j]):=by simp only[atD,h]
 unfold yQ;simp only[ho,Option.bind_some,d1,if_true,k1,hx,a1];rfl
theorem aHt(h:bW M w n vs):eU [.c w,I a,I b] M=some (tv (vs.filter big) (if b<a then b else a) (if b > a then b else a),M):=by
 have o1:objOf "Web" M (.c w)=some (w,([("many",I n),("ties",.d (.tuple (bT vs))),("weights",.c (w+2))]:List (Str×CD))):=by
  simp only[objOf,h.1,XT,if_true]
 have f1:gF "Web" "weights" (aD 0) [some (.c w),some (I a),some (I b)] M=some (.c (w+2),M):=by
  have lk:List.lookup ("weights":Str) [("many",I n),("ties",.d (.tuple (bT vs))),("weights",.c (w+2))]=some (.c (w+2)):=rfl;simp![gF,o1,lk]
 have g:=aEF (γ:=[some (.c w),some (I a),some (I b)]) (fa:=aM jL (aB (aD 1) (aB (aD 2) aI))) (fb:=aM jX (aB (aD 1) (aB (aD 2) aI))) (i:=if b<a then b else a) (j:=if b > a then b else a) h.2 f1 rfl rfl (CH _ _);simp only[eU,tH,fnF,cG,List.length_cons,List.length_nil,List.map_cons,List.map_nil,List.replicate_zero,List.append_nil,Nat.reduceAdd,Nat.reduceSub,if_true,reduceIte,g,Option.bind_some]
noncomputable def plc(n:Int):PyData->Bool
 |.int i=>decide (0<=i)&&decide (i<n)
 |_=>false
theorem tD(n:Int)(p:PyData)(M:Sto):eS [I n,.d p] M=some (B (plc n p),M):=by
 cases hp:eE p with
 |false=>
  have e:plc n p=false:=by cases p<;>first|rfl|cases hp
  rw[e];simp![eS,kM,iF,hp]
 |true=>
  obtain⟨i,rfl⟩:∃i,p=.int i:=by cases p<;>first|exact⟨_,rfl⟩|cases hp
  have hc:plc n (.int i)=(decide (0<=i)&&decide (i<n)):=rfl;rw[hc];cases h0:decide (0<=i)<;>simp![eS,kM,iF,hp,h0,Bool.true_and,Bool.false_and]
noncomputable def ulk(n:Int)(p q:PyData):Bool:=match p,q with
 |.int i,.int j=>plc n p&&(plc n q&&!(i==j))
 |_,_=>false
theorem rJ(h:plc n p=true):∃i,p=.int i/\0<=i/\i<n:=by
 cases p with
 |int i=>simp only[plc,Bool.and_eq_true,decide_eq_true_eq]at h;exact⟨i,rfl,h.1,h.2⟩
 |_=>cases h
theorem aDw(n:Int)(p q:PyData)(M:Sto):bD [I n,.d p,.d q] M=some (B (ulk n p q),M):=by
 cases h1:plc n p with
 |false=>
  have e:ulk n p q=false:=by
   unfold ulk;split
   .rw[h1];rfl
   .rfl
  rw[e];simp![bD,cB,tD,h1]
 |true=>
  obtain⟨i,rfl,_⟩:=rJ h1;cases h2:plc n q with
  |false=>
   have e:ulk n (.int i) q=false:=by
    unfold ulk;split
    .rw[h2,Bool.false_and,Bool.and_false]
    .rfl
   rw[e];simp![bD,cB,tD,h1,h2]
  |true=>
   obtain⟨j,rfl,_⟩:=rJ h2;have e:ulk n (.int i) (.int j)=!(i==j):=by show(plc n (.int i)&&(plc n (.int j)&&!(i==j)))=_;rw[h1,h2];rfl
   rw[e];simp![bD,cB,tD,h1,h2,MY]
theorem NG{i:Int}:(if j<i then j else i)=min i j:=by split<;>omega
theorem MZ{i:Int}:(if j > i then j else i)=max i j:=by split<;>omega
theorem OC{i:Int}:jL [I i,I j] M=some (I (min i j),M):=by rw[<- NG];rfl
theorem PV{i:Int}:jX [I i,I j] M=some (I (max i j),M):=by rw[<- MZ];rfl
noncomputable def nk(lo hi:Int)(t:Tie):Bool:=!(t.i==lo&&(t.j==hi&&true))
theorem aIS{c d:Int}:eqX true (.d (.tuple [.int a,.int b])) (.d (.tuple [.int c,.int d])) M=some (B (!(a==c&&(b==d&&true))),M):=rfl
noncomputable abbrev IJ(f:EF):EF:=bR (aB (fOp ixF f (fC (.int 0))) (aB (fOp ixF f (fC (.int 1))) aI))
theorem aHe{t:Tie}(h:f γ M=some (.d (.tuple (f2 t)),M)):IJ f γ M=some (.d (.tuple [.int t.i,.int t.j]),M):=by
 have x0:ixF (.d (.tuple (f2 t))) (I 0) M=some (I t.i,M):=rfl;have x1:ixF (.d (.tuple (f2 t))) (I 1) M=some (I t.j,M):=rfl;simp![IJ,h,x0,x1,z2]
theorem GL{M:Sto}{lo hi:Int}{p q:Option CD}{e:EF}(he:∀s,e [p,q,s] M=some (.d (.tuple [.int lo,.int hi]),M)):∀(us:List Tie)(s:Option CD),
 lcF (hName 2) (gB (fOp (eqX true) (IJ (aD 2)) e)) (aD 2) ((aL us).map .d) [p,q,s] M=some ((aL (us.filter (nk lo hi))).map .d,M)
 |[]=>fun _=>rfl
 |t::us=>fun s=>by
  have ih:=GL he us (some (.d (.tuple (f2 t))))
  have c1:gB (fOp (eqX true) (IJ (aD 2)) e) [p,q,some (.d (.tuple (f2 t)))] M=some (nk lo hi t,M):=by
   have h1:IJ (aD 2) [p,q,some (.d (.tuple (f2 t)))] M=_:=aHe (t:=t) rfl;unfold gB fOp;rw[h1,A1];dsimp only;rw[he,A1];dsimp only;rw[aIS];rfl
  show lcF _ _ _ (.d (.tuple (f2 t))::(aL us).map .d) [p,q,s] M=_;unfold lcF;rw[show hName 2 (.d (.tuple (f2 t))) [p,q,s] M=some ([p,q,some (.d (.tuple (f2 t)))],M)from rfl,A1];dsimp only;rw[c1,A1];dsimp only;by_cases hb:nk lo hi t=true
  .rw[A4 hb,show aD 2 [p,q,some (.d (.tuple (f2 t)))] M=some (.d (.tuple (f2 t)),M)from rfl,A1];dsimp only;rw[ih,A1,U2 hb];rfl
  .rw[A5 hb,ih,U3 hb]
theorem eB(us:List Tie):(aL us).length=us.length:=by unfold aL;rw[A9]
section
variable{M:Sto}{w:Nat}{n:Int}{vs:List Tie}
theorem bW.obj(h:bW M w n vs):objOf "Web" M (.c w)=some (w,([("many",I n),("ties",.d (.tuple (bT vs))),("weights",.c (w+2))]:List (Str×CD))):=by
 simp only[objOf,h.1,XT,if_true]
theorem bW.many(h:bW M w n vs)(hf:f γ M=some (.c w,M)):gF "Web" "many" f γ M=some (I n,M):=by
 have lk:List.lookup ("many":Str) [("many",I n),("ties",.d (.tuple (bT vs))),("weights",.c (w+2))]=some (I n):=rfl;simp only[gF,hf,h.obj,lk,Option.bind_some]
theorem bW.ties(h:bW M w n vs)(hf:f γ M=some (.c w,M)):gF "Web" "ties" f γ M=some (.d (.tuple (bT vs)),M):=by
 have lk:List.lookup ("ties":Str) [("many",I n),("ties",.d (.tuple (bT vs))),("weights",.c (w+2))]=some (.d (.tuple (bT vs))):=rfl;simp only[gF,hf,h.obj,lk,Option.bind_some]
noncomputable def aBr(u b:Bool):Rs:=if u=true then(if b=true then .v (.d .none)else .x ⟨"NoWeight",[]⟩)else .x ⟨"NoPlace",[]⟩
theorem KU(h:bW M w n vs){b:Bool}(hw:cD [x] M=some (B b,M)):cI [.c w,.d p,.d q,x] M=some (aBr (ulk n p q) b,M):=by
 have m1:=h.many (γ:=[some (.c w),some (.d p),some (.d q),some x]) (f:=aD 0) rfl;cases hu:ulk n p q with
 |false=>
  have r1:bN [I n,.d p,.d q] M=some (.x ⟨"NoPlace",[]⟩,M):=by simp![bN,cT,aDw,hu]
  simp![cI,eA,m1,r1,aBr]
 |true=>
  have r1:bN [I n,.d p,.d q] M=some (.v (.d .none),M):=by simp![bN,cT,aDw,hu]
  cases b<;>simp![cI,eA,m1,r1,aBr,hw]
end
noncomputable def Wt(M:Sto)(x:CD)(a b:Int):Prop:=eP a b=true/\((∃d,x=.d d/\bJ d=some [.int a,.int b])\/∃m,x=.c m/\M[m]?=some (.lst [I a,I b]))
theorem Wt.is(h:Wt M x a b):cD [x] M=some (B true,M):=by
 obtain⟨hw,⟨d,rfl,hd⟩|⟨m,rfl,hm⟩⟩:=h
 .exact pJ Rds.d hd hw
 .exact pJ (KI hm) rfl hw
theorem ON{M:Sto}{n:Int}:∀{us:List Tie},(∀t∈us,TOk n t)->Paired (BQ M n) ((aL us).map .d) us
 |[]=>fun _=>.nil
 |t::us=>fun h=>.cons ⟨h t B5,.inl ⟨_,rfl,rfl⟩⟩ (ON fun s hs=>h s (B4 _ hs))
theorem ZR(h:Paired (BQ M n) (ds.map .d) us):BU M n (.d (.list ds)) us:=
 ⟨ds.map .d,fun _=>True,fun _=>rfl,fun _=>True.intro,fun _=>JP _ _,h⟩
theorem aGF{k:Nat}{zs:List CD}{d:PyData}(hk:M[k]?=some (.lst zs))(hr:∀L,Rds (M++L) (.c k) d)(hd:qU d=true)(h:Paired (BQ M n) zs us):BU M n (.c k) us:=by
 refine⟨zs,fun M'=>M'[k]?=some (.lst zs),fun L=>?_,fun L=>fX hk,fun L=>?_,h⟩
 .simp only[walked,fX hk]
 .rw[zM (hr L),hd]
theorem JX{M:Sto}{k:Nat}:∀ds:List PyData,cL k M (ds.map .d)=some ds
 |[]=>by unfold cL;rfl
 |d::ds=>by rw[C3];unfold cL;rw[hZ,A1,JX ds];rfl
theorem DX{M:Sto}{k:Nat}:∀{xs ys:List CD}{ds es:List PyData},cL k M xs=some ds->cL k M ys=some es->cL k M (xs++ys)=some (ds++es)
 |[],ys,ds,es=>fun h g=>by unfold cL at h;cases h;exact g
 |x::xs,ys,ds,es=>fun h g=>by
  unfold cL at h;obtain⟨d,h1,h⟩:=aG h;obtain⟨ds',h2,h⟩:=aG h;cases h;rw[List.cons_append];unfold cL;rw[h1,A1,DX h2 g];rfl
theorem II:∀(ds:List PyData)(y:CD)(h:hV [y]=none),hV (ds.map .d++[y])=none
 |[]=>fun y h=>h
 |d::ds=>fun y h=>by
  show(hV (ds.map .d++[y])).map (d::·)=none;rw[II ds y h];rfl
section
variable{M:Sto}{w:Nat}{n:Int}{vs:List Tie}
theorem aEg(h:bW M w n vs){ks:List Tie}{hi:Int}(hx:Wt M x a b)(hk:∀t∈ks,TOk n t)(kl:ks.length<60)(t0:0<=lo/\lo<hi/\hi<n)(g0:γ[0]?=some (some (.c w)))(g3:γ[3]?=some (some x))(g4:γ[4]?=some (some (I lo)))(g5:γ[5]?=some (some (I hi)))(g6:γ[6]?=some (some (.d (.list (aL ks))))):
 ∃y L,(aB (gF "Web" "many" (aD 0)) (aB (fOp xN (aD 6) (uE (aB (oJ (aB (aD 4) (aB (aD 5) (aB (aD 3) aI)))) aI))) aI)) γ M=some ([I n,y],M++L)/\BU (M++L) n y (ks++[⟨lo,hi,a,b⟩]):=by
 have m1:=h.many (γ:=γ) (f:=aD 0) (by unfold aD;rw[g0]);have tok:TOk n ⟨lo,hi,a,b⟩:=⟨hx.1,t0.1,t0.2.1,t0.2.2⟩
 have args:(aB (aD 4) (aB (aD 5) (aB (aD 3) aI))) γ M=some ([I lo,I hi,x],M):=by
  simp only[aB,aI,aD,g3,g4,g5,Option.bind_some]
 have addI0:∀(zs:List PyData)(k:Nat)(N:Sto),aBJ (.d (.list zs)) (.c k) N=none:=fun _ _ _=>rfl;obtain⟨hw,⟨d,rfl,hd⟩|⟨m,rfl,hm⟩⟩:=hx
 .have tc:oJ (aB (aD 4) (aB (aD 5) (aB (aD 3) aI))) γ M=some (.d (.tuple [.int lo,.int hi,d]),M):=by
   unfold oJ;rw[args,A1];dsimp only;rw[A4 (show[I lo,I hi,CD.d d].length<=sizeLine from z3)];rfl
  have nw:uE (aB (oJ (aB (aD 4) (aB (aD 5) (aB (aD 3) aI)))) aI) γ M=some (.c M.length,M++[.lst [.d (.tuple [.int lo,.int hi,d])]]):=by
   unfold uE;simp only[aB,aI,tc,Option.bind_some,List.length_cons,List.length_nil,if_pos z1]
  have ad:xN (.d (.list (aL ks))) (.c M.length) (M++[.lst [.d (.tuple [.int lo,.int hi,d])]])=some (.d (.list (aL ks++[.tuple [.int lo,.int hi,d]])),M++[.lst [.d (.tuple [.int lo,.int hi,d])]]):=by
   have c:HI (.d (.list (aL ks))) (.c M.length) (M++[.lst [.d (.tuple [.int lo,.int hi,d])]])=some (.d (.list (aL ks++[.tuple [.int lo,.int hi,d]])),M++[.lst [.d (.tuple [.int lo,.int hi,d])]]):=by
    have e1:(aL ks).map CD.d++[.d (.tuple [.int lo,.int hi,d])]=(aL ks++[PyData.tuple [.int lo,.int hi,d]]).map CD.d:=by rw[D8];rfl
    unfold HI;simp only[rT,Option.bind_some,gM,e1,mM];rw[A4 (sz (by rw[B2,eB,C7,L7];omega))]
   unfold xN dW xG;rw[addI0];dsimp only;rw[c]
  refine⟨.d (.list (aL ks++[.tuple [.int lo,.int hi,d]])),[.lst [.d (.tuple [.int lo,.int hi,d])]],?_,ZR ?_⟩
  .have v6:aD 6 γ M=some (.d (.list (aL ks)),M):=by unfold aD;rw[g6]
   have op:fOp xN (aD 6) (uE (aB (oJ (aB (aD 4) (aB (aD 5) (aB (aD 3) aI)))) aI)) γ M=some (.d (.list (aL ks++[.tuple [.int lo,.int hi,d]])),M++[.lst [.d (.tuple [.int lo,.int hi,d])]]):=by
    unfold fOp;rw[v6,A1];dsimp only;rw[nw,A1];exact ad
   show(gF "Web" "many" (aD 0) γ M).bind _=_;rw[m1,A1];show((fOp xN (aD 6) _ γ M).bind _).bind _=_;rw[op];rfl
  .rw[D8];exact Paired.app (ON hk) (.cons ⟨tok,.inl ⟨d,rfl,hd⟩⟩ .nil)
 .have tc:oJ (aB (aD 4) (aB (aD 5) (aB (aD 3) aI))) γ M=some (.t [.inl (.int lo),.inl (.int hi),.inr m],M):=by
   unfold oJ;rw[args,A1];dsimp only;rw[A4 (show[I lo,I hi,CD.c m].length<=sizeLine from z3)];rfl
  have nw:uE (aB (oJ (aB (aD 4) (aB (aD 5) (aB (aD 3) aI)))) aI) γ M=some (.c M.length,M++[.lst [.t [.inl (.int lo),.inl (.int hi),.inr m]]]):=by
   unfold uE;simp only[aB,aI,tc,Option.bind_some,List.length_cons,List.length_nil,if_pos z1]
  generalize hM1:M++[Cell.lst [.t [.inl (.int lo),.inl (.int hi),.inr m]]]=M1 at nw;have hk1:M1[M.length]?=some (.lst [.t [.inl (.int lo),.inl (.int hi),.inr m]]):=by rw[<- hM1];exact gM
  have ad:xN (.d (.list (aL ks))) (.c M.length) M1=some (.c M1.length,M1++[.lst ((aL ks).map .d++[.t [.inl (.int lo),.inl (.int hi),.inr m]])]):=by
   have c:HI (.d (.list (aL ks))) (.c M.length) M1=none:=by
    unfold HI;simp only[rT,Option.bind_some,hk1,II (aL ks) _ (show hV [CD.t [.inl (.int lo),.inl (.int hi),.inr m]]=none from rfl)];rfl
   have c2:aAz (.d (.list (aL ks))) (.c M.length) M1=some (.c M1.length,M1++[.lst ((aL ks).map .d++[.t [.inl (.int lo),.inl (.int hi),.inr m]])]):=by
    unfold aAz;simp only[rT,Option.bind_some,hk1];rw[A4 (sz (by rw[A9,eB,C7,L7];omega))]
   have c3:dW (.d (.list (aL ks))) (.c M.length) M1=none:=by
    unfold dW xG;rw[addI0];dsimp only;rw[c];rfl
   unfold xN;show(match dW (.d (.list (aL ks))) (.c M.length) M1 with|some r=>some r|none=>aAz (.d (.list (aL ks))) (.c M.length) M1)=_;rw[c3];exact c2
  have hm1:M1[m]?=some (.lst [I a,I b]):=by rw[<- hM1];exact fX hm
  refine⟨.c M1.length,[.lst [.t [.inl (.int lo),.inl (.int hi),.inr m]],.lst ((aL ks).map .d++[.t [.inl (.int lo),.inl (.int hi),.inr m]])],?_,?_⟩
  .have v6:aD 6 γ M=some (.d (.list (aL ks)),M):=by unfold aD;rw[g6]
   have op:fOp xN (aD 6) (uE (aB (oJ (aB (aD 4) (aB (aD 5) (aB (aD 3) aI)))) aI)) γ M=some (.c M1.length,M1++[.lst ((aL ks).map .d++[.t [.inl (.int lo),.inl (.int hi),.inr m]])]):=by
    unfold fOp;rw[v6,A1];dsimp only;rw[nw,A1];exact ad
   show(gF "Web" "many" (aD 0) γ M).bind _=_;rw[m1,A1];show((fOp xN (aD 6) _ γ M).bind _).bind _=_;rw[op,<- hM1,C1];rfl
  .have e:M++[.lst [.t [.inl (.int lo),.inl (.int hi),.inr m]],.lst ((aL ks).map .d++[.t [.inl (.int lo),.inl (.int hi),.inr m]])]=M1++[.lst ((aL ks).map .d++[.t [.inl (.int lo),.inl (.int hi),.inr m]])]:=by rw[<- hM1,C1];rfl
   rw[e];refine aGF (d:=.list (aL ks++[.tuple [.int lo,.int hi,.list [.int a,.int b]]])) gM (fun L=>?_) rfl (Paired.app (ON hk) (.cons ⟨tok,.inr ⟨m,rfl,fX hm1⟩⟩ .nil));unfold Rds snap;rw[fX gM]
   have s1:cL 4 (M1++[.lst ((aL ks).map .d++[.t [.inl (.int lo),.inl (.int hi),.inr m]])]++L) ((aL ks).map .d++[.t [.inl (.int lo),.inl (.int hi),.inr m]])=some (aL ks++[.tuple [.int lo,.int hi,.list [.int a,.int b]]]):=by
    refine DX (JX _) ?_;unfold cL snap;simp only[List.map_cons,List.map_nil,cdA,cL,hZ,Option.bind_some];unfold snap;rw[fX (fX hm1)];simp only[cL,hZ,Option.bind_some]
   show(cL 4 _ _).bind _=_;rw[s1];rfl
theorem rG(h:bW M w n vs)(hv:∀t∈vs.filter big,TOk n t)(nd:((vs.filter big).map Tie.key).Nodup)(vl:(vs.filter big).length<60){i:Int}(i0:0<=i)(i1:i<n)(j0:0<=j)(j1:j<n)(ne:i≠j)(n40:n<=40)(hx:Wt M x a b):
 ∃L w' vs',eI [.c w,I i,I j,x] M=some (.v (.c w'),M++L)/\bW (M++L) w' n vs'/\vs'.Perm ((vs.filter big).filter (nk (min i j) (max i j))++[⟨min i j,max i j,a,b⟩])/\vs'.Pairwise Tie.lt/\M.length<=w':=by
 have hu:ulk n (.int i) (.int j)=true:=by
  have q:(!(i==j))=true:=by simpa using ne
  show(plc n (.int i)&&(plc n (.int j)&&!(i==j)))=true;rw[q];simp only[plc,decide_eq_true i0,decide_eq_true j0,decide_eq_true i1,decide_eq_true j1,Bool.and_true,Bool.true_and]
 have rf:cI [.c w,I i,I j,x] M=some (.v (.d .none),M):=by rw[KU h hx.is,hu];rfl
 generalize hks:(vs.filter big).filter (nk (min i j) (max i j))=ks;have kl:ks.length<60:=by rw[<- hks];exact L4 (E8 ..) vl
 have cp:qP [some (.c w),some (I i),some (I j),some x,some (I (min i j)),some (I (max i j)),none] M=some (.d (.list (aL ks)),M):=by
  unfold qP
  have it:dA (gF "Web" "ties" (aD 0)) [some (.c w),some (I i),some (I j),some x,some (I (min i j)),some (I (max i j)),none] M=some ((aL (vs.filter big)).map .d,M):=by
   unfold dA;rw[h.ties rfl];rfl
  rw[<- hks];refine GQ it (sz (by rw[A9,eB];omega)) (GL (p:=some (I (min i j))) (q:=some (I (max i j))) (fun s=>?_) (vs.filter big) none) (sz (by rw[eB,hks];omega));simp![z2]
 obtain⟨y,L1,ea,ht⟩:=aEg h (γ:=[some (.c w),some (I i),some (I j),some x,some (I (min i j)),some (I (max i j)),some (.d (.list (aL ks)))]) (ks:=ks) (lo:=min i j) (hi:=max i j) hx (fun t ht=>hv t (by rw[<- hks]at ht;exact(List.mem_filter.mp ht).1)) kl (by omega) rfl rfl rfl rfl rfl
 have nd2:((ks++[(⟨min i j,max i j,a,b⟩:Tie)]).map Tie.key).Nodup:=by
  rw[D8,O4];refine⟨?_,by simp,fun k hk k' hk' e=>?_⟩
  .rw[<- hks];exact(List.filter_sublist.map Tie.key).nodup nd
  .obtain⟨t,ht,rfl⟩:=List.mem_map.mp hk;have hk':k'=[.inl (min i j),.inl (max i j)]:=by simpa[Tie.key]using hk'
   rw[hk']at e;have e:([.inl t.i,.inl t.j]:List Key)=[.inl (min i j),.inl (max i j)]:=e;injection e with e1 e2
   injection e2 with e2 _
   injection e1 with e1
   injection e2 with e2
   rw[<- hks]at ht;have:=(List.mem_filter.mp ht).2;unfold nk at this;rw[e1,e2]at this;simp at this
 obtain⟨vs',pm,pw,ew⟩:=aFL ea ht nd2 (by rw[B2];simp only[List.length_cons,List.length_nil];omega) (by omega) n40;refine⟨L1++FI (M++L1).length n (ks++[⟨min i j,max i j,a,b⟩]) vs',(M++L1).length,vs',?_,?_,pm,pw,by rw[B2];omega⟩
 .rw[<- C1];simp![eI,rF,rf,OC,PV,z2,cp,ew]
 .have:=AB (M:=M++L1) (L:=[]) (n:=n) (us:=ks++[⟨min i j,max i j,a,b⟩]) (vs:=vs');rw[C6,C1]at this;exact this
end
theorem eSS{s:Str}:eqX false (.d (.str s)) (.d (.str s)) M=some (B true,M):=by
 show some (B (s==s),M)=_;simp
theorem aIL{t:Tie}(h:f γ M=some (.d (.tuple (f2 t)),M)):kQ (aB (fOp ixF f (fC (.int 0))) (aB (fOp ixF f (fC (.int 1))) aI)) γ M=some (.inr t.key,M):=by
 have x0:ixF (.d (.tuple (f2 t))) (I 0) M=some (I t.i,M):=rfl;have x1:ixF (.d (.tuple (f2 t))) (I 1) M=some (I t.j,M):=rfl;have l2:(Tie.key t).length<=sizeLine:=sz (show 2<=1000 by decide);have kk:keysOf [I t.i,I t.j]=some t.key:=rfl;simp![kQ,h,x0,x1,kk,if_pos l2]
theorem HZ{M:Sto}:∀(ws:List Tie)(s:Option CD),lW (hName 0) rN (kQ (aB (fOp ixF (aD 0) (fC (.int 0))) (aB (fOp ixF (aD 0) (fC (.int 1))) aI))) (fOp ixF (aD 0) (fC (.int 2))) ((aL ws).map .d) [s] M=some (ws.map fun t=>(.inr t.key,t.val),M)
 |[]=>fun _=>rfl
 |t::ws=>fun s=>by
  have ih:=HZ (M:=M) ws (some (.d (.tuple (f2 t))));have kf:=aIL (t:=t) (γ:=[some (.d (.tuple (f2 t)))]) (M:=M) (f:=aD 0) rfl;show lW _ _ _ _ (.d (.tuple (f2 t))::(aL ws).map .d) [s] _=_;unfold lW;rw[show hName 0 (.d (.tuple (f2 t))) [s] M=some ([some (.d (.tuple (f2 t)))],M)from rfl,A1];dsimp only;rw[show rN [some (.d (.tuple (f2 t)))] M=some (true,M)from rfl,A1];dsimp only;rw[A4 rfl,kf,A1];dsimp only;rw[show fOp ixF (aD 0) (fC (.int 2)) [some (.d (.tuple (f2 t)))] M=some (t.val,M)from rfl,A1];dsimp only;rw[ih,A1];rfl
theorem PJ{N:Sto}:∀(ws ts:List Tie),((ts++ws).map Tie.key).Nodup->ts.length+ws.length<1000->
 wQ N.length (ws.map fun t=>(.inr t.key,t.val)) (N++[.dt (aV ts)])=some (N++[.dt (aV (ts++ws))])
 |[]=>fun ts _ _=>by rw[C6];rfl
 |t::ws=>fun ts nd hl=>by
  have nk:∀s∈ts,s.key≠t.key:=fun s hs q=>by
   rw[D8,O4]at nd;exact nd.2.2 _ (J0 hs) _ (by rw[C3];exact B5) q
  have ih:=PJ (N:=N) ws (ts++[t]) (by rw[C1];exact nd) (by rw[B2];simp only[List.length_cons,List.length_nil]at hl ⊢;omega);have hD:(N++[.dt (aV ts)])[N.length]?=some (.dt (aV ts)):=gM;have len:(aV ts).length<sizeLine:=by unfold aV;rw[A9,D5];omega
  have st:uK (N++[.dt (aV ts)]) (.c N.length) (.inr t.key) t.val=some (N++[.dt (aV (ts++[t]))]):=by
   simp only[uK,hD,if_pos len,HE nk];rw[rC]
  show wQ _ ((.inr t.key,t.val)::ws.map fun t=>(.inr t.key,t.val)) _=_;unfold wQ;rw[st,A1,ih,C1];rfl
theorem aGb(h3:γ[1]?=some (some (.d (.list (aL ts)))))(nd:(ts.map Tie.key).Nodup)(hl:ts.length<64):jT γ M=some (.c M.length,M++[.dt (aV ts)]):=by
 have it:dA (aD 1) γ M=some ((aL ts).map .d,M):=by
  unfold dA aD;rw[h3];rfl
 have l1:((aL ts).map CD.d).length<=sizeLine:=by rw[A9];unfold aL;rw[A9,D5];omega
 have c1:qN [none] γ=[none]:=rfl;unfold jT fDL;rw[it,A1];dsimp only;rw[A4 l1,c1,HZ,A1];dsimp only;rw[show M++[Cell.dt []]=M++[.dt (aV [])]from rfl,PJ ts [] (by rw[U0];exact nd) (by simp only[List.length_nil];omega),A1];rfl
noncomputable def kD(us:List Tie)(t:Tie):List Tie:=if (us.any fun s=>decide (s.key=t.key))=true then us.map (fun s=>if s.key=t.key then t else s)else us++[t]
theorem aFM(us:List Tie)(t:Tie):putD (aV us) t.key t.val=aV (kD us t):=by
 unfold putD kD;have e:((aV us).any fun kv=>decide (kv.1=t.key))=us.any fun s=>decide (s.key=t.key):=by rw[aV,List.any_map];rfl
 rw[e];split
 .unfold aV;rw[S3,S3];refine Z1 fun s _=>?_;show(if s.key=t.key then(s.key,t.val)else(s.key,s.val))=((if s.key=t.key then t else s).key,(if s.key=t.key then t else s).val);by_cases q:s.key=t.key
  .rw[A4 q,A4 q,q]
  .rw[A5 q,A5 q]
 .unfold aV;rw[D8];rfl
theorem nk_iff{s t:Tie}:nk t.i t.j s=true↔s.key≠t.key:=by
 unfold nk Tie.key;rw[Bool.and_true,Bool.not_eq_true',Bool.and_eq_false_iff,Y9,Y9];constructor
 .rintro(h|h) e
  .injection e with e1 _;injection e1 with e1;exact h e1
  .injection e with _ e2;injection e2 with e2 _;injection e2 with e2;exact h e2
 .intro h;by_cases q:s.i=t.i
  .exact .inr fun z=>h (by rw[q,z])
  .exact .inl q
theorem filter_all{us:List Tie}{t:Tie}(h:∀s∈us,s.key≠t.key):us.filter (nk t.i t.j)=us:=List.filter_eq_self.mpr fun s hs=>nk_iff.mpr (h s hs)
theorem IF{t:Tie}:∀{us:List Tie},(us.map Tie.key).Nodup->(kD us t).Perm (us.filter (nk t.i t.j)++[t])
 |[]=>fun _=>.refl _
 |s::r=>fun nd=>by
  rw[C3,List.nodup_cons]at nd;by_cases q:s.key=t.key
  .have hr:∀u∈r,u.key≠t.key:=fun u hu e=>nd.1 (by rw[q,<- e];exact J0 hu)
   have e1:kD (s::r) t=t::r:=by
    unfold kD;rw[L8,C4 q,Bool.true_or,A4 rfl,C3,A4 q];congr 1;refine(Z1 fun u hu=>?_).trans (List.map_id r);rw[A5 (hr u hu)];rfl
   have e2:(s::r).filter (nk t.i t.j)=r:=by rw[U3 (fun z=>nk_iff.mp z q),filter_all hr]
   rw[e1,e2];exact(List.perm_append_singleton t r).symm
  .have e1:kD (s::r) t=s::kD r t:=by
    unfold kD;rw[L8,B8 q,Bool.false_or];split
    .rw[C3,A5 q]
    .rfl
   rw[e1,U2 (nk_iff.mpr q),List.cons_append];exact(IF nd.2).cons s
theorem aDt:∀{us:List Tie}{s:Tie},(us.map Tie.key).Nodup->s∈us->lkP (us.map fun t=>(t.key,PyData.tuple [.int t.a,.int t.b])) s.key=some (.tuple [.int s.a,.int s.b])
 |t::r,s,nd,hs=>by
  rw[C3,List.nodup_cons]at nd;unfold lkP;rw[C3,List.find?_cons];by_cases q:t.key=s.key
  .rw[C4 q];rcases List.mem_cons.mp hs with rfl|hs
   .rfl
   .exact absurd (q▸J0 hs) nd.1
  .rw[B8 q];rcases List.mem_cons.mp hs with rfl|hs
   .exact absurd rfl q
   .exact aDt nd.2 hs
noncomputable abbrev fz(us:List Tie):CD:=.f (us.map fun t=>(t.key,PyData.tuple [.int t.a,.int t.b]))
theorem EA{M:Sto}{us:List Tie}(nd:(us.map Tie.key).Nodup):∀(ws:List Tie)(s:Option CD),(∀t∈ws,t∈us)->
 lcF (hName 1) rN (bR (aB (fOp ixF (aD 1) (fC (.int 0))) (aB (fOp ixF (aD 1) (fC (.int 1))) (aB (wU (aD 0) (kT (aD 1))) aI)))) (ws.map fun t=>sT t.key) [some (fz us),s] M=some ((aL ws).map .d,M)
 |[]=>fun _ _=>rfl
 |t::ws=>fun s h=>by
  have ih:=EA (M:=M) nd ws (some (sT t.key)) fun u hu=>h u (B4 _ hu);have x0:ixF (sT t.key) (I 0) M=some (I t.i,M):=rfl;have x1:ixF (sT t.key) (I 1) M=some (I t.j,M):=rfl;have k1:kT (aD 1) [some (fz us),some (sT t.key)] M=some (.inr t.key,M):=rfl
  have a1:atD M (fz us) (.inr t.key)=some (some t.val):=by
   show some ((lkP _ t.key).map CD.d)=_;rw[aDt nd (h t B5)];rfl
  have g1:wU (aD 0) (kT (aD 1)) [some (fz us),some (sT t.key)] M=some (t.val,M):=by
   unfold wU;rw[show aD 0 [some (fz us),some (sT t.key)] M=some (fz us,M)from rfl,A1];dsimp only;rw[k1,A1];dsimp only;rw[a1];rfl
  have e1:bR (aB (fOp ixF (aD 1) (fC (.int 0))) (aB (fOp ixF (aD 1) (fC (.int 1))) (aB (wU (aD 0) (kT (aD 1))) aI))) [some (fz us),some (sT t.key)] M=some (.d (.tuple (f2 t)),M):=by
   have g1':wU (aD 0) (kT (aD 1)) [some (fz us),some (sT t.key)] M=some (.d (.tuple [.int t.a,.int t.b]),M):=g1;simp![f2,x0,x1,g1',z3]
  rw[C3];unfold lcF;rw[show hName 1 (sT t.key) [some (fz us),s] M=some ([some (fz us),some (sT t.key)],M)from rfl,A1];dsimp only;rw[show rN [some (fz us),some (sT t.key)] M=some (true,M)from rfl,A1];dsimp only;rw[A4 rfl,e1,A1];dsimp only;rw[ih,A1];rfl
theorem aGE(nd:(us.map Tie.key).Nodup)(hl:us.length<64)(h5:γ[5]?=some (some (fz us))):kH γ M=some (.d (.list (aL us)),M):=by
 unfold kH
 have it:JE (aD 5) γ M=some (us.map fun t=>sT t.key,M):=by
  unfold JE aD;rw[h5];show some (((us.map fun t=>(t.key,PyData.tuple [.int t.a,.int t.b])).map fun kv=>sT kv.1),M)=_;rw[S3];rfl
 have c1:qN [some 5,none] γ=[some (fz us),none]:=by
  show[(γ[5]?).join,none]=_;rw[h5];rfl
 exact GQ it (sz (by rw[A9];omega)) (by rw[c1];exact EA nd us none fun _ h=>h) (sz (by rw[eB];omega))
noncomputable def Sm(i:Int):Prop:=i.natAbs<2 ^ 1900
theorem yT{i:Int}(h0:0<=i)(h:i<=1000000000000):Sm i:=by
 have:(1000000000001:Nat)<=2 ^ 1900:=by decide +kernel
 unfold Sm;omega
noncomputable def Sh(t:Tie):Prop:=Sm t.i/\Sm t.j/\Sm t.a/\Sm t.b
theorem nU{i:Int}(h:Sm i):oks (.int i)=true:=C4 h
theorem aBj(ha:Sm a)(hb:Sm b):Fit 4007 1 (.tuple [.int a,.int b]):=by
 refine⟨?_,?_,?_⟩
 .simp only[oks,gZ,Bool.and_true,Bool.and_eq_true];exact⟨nU ha,nU hb⟩
 .simp only[wt,kL];decide
 .simp only[PyData.depth,PyData.depthAll];decide
theorem aAO{t:Tie}(h:Sh t):oks (.tuple (f2 t))=true:=by
 simp only[f2,oks,gZ,Bool.and_true,Bool.and_eq_true];exact⟨nU h.1,nU h.2.1,nU h.2.2.1,nU h.2.2.2⟩
theorem AZ:∀{ts:List Tie},(∀t∈ts,Sh t)->gZ (aL ts)=true/\kL (aL ts)<=8100*ts.length/\PyData.depthAll (aL ts)<=2
 |[]=>fun _=>⟨rfl,A7 _,by show PyData.depthAll []<=2;simp only[PyData.depthAll];decide⟩
 |t::ts=>fun h=>by
  obtain⟨h1,h2,h3⟩:=AZ (ts:=ts) fun s hs=>h s (B4 _ hs);have e:aL (t::ts)=.tuple (f2 t)::aL ts:=rfl;have w:wt (.tuple (f2 t))<=8050:=by simp only[f2,wt,kL];decide
  have d:PyData.depth (.tuple (f2 t))<=2:=by simp only[f2,PyData.depth,PyData.depthAll];decide
  rw[e];refine⟨?_,?_,?_⟩
  .simp only[gZ,h1,aAO (h t List.mem_cons_self),Bool.and_true]
  .simp only[kL,List.length_cons];omega
  .simp only[PyData.depthAll];omega
theorem aCN{ts:List Tie}(hn:Sm n)(h:∀t∈ts,Sh t)(h64:ts.length<64):Fit 600000 4 (.tuple [.int n,.tuple (aL ts)]):=by
 obtain⟨h1,h2,h3⟩:=AZ h;refine⟨?_,?_,?_⟩
 .simp only[oks,gZ,h1,Bool.and_true];exact nU hn
 .simp only[wt,kL];omega
 .simp only[PyData.depth,PyData.depthAll];omega
section
variable{M:Sto}{w:Nat}{n:Int}{vs:List Tie}
theorem YJ{fa:EF}(h:bW M w n vs)(ho:fo γ M=some (.c w,M))(ha:fa γ M=some (I a,M))(hb:fb γ M=some (I b,M)):pF "Web" "tie" eU fo (aB fa (aB fb aI)) γ M=some (tv (vs.filter big) (if b<a then b else a) (if b > a then b else a),M):=by
 have o1:objOf "Web" M (.c w)=some (w,([("many",I n),("ties",.d (.tuple (bT vs))),("weights",.c (w+2))]:List (Str×CD))):=by
  simp only[objOf,h.1,XT,if_true]
 have lk:List.lookup ("tie":Str) [("many",I n),("ties",.d (.tuple (bT vs))),("weights",.c (w+2))]=none:=rfl;unfold pF;simp only[ho,Option.bind_some,o1,lk,if_true,aB,aI,ha,hb];exact aHt h
end
theorem aDH{us:List Tie}(ok:∀t∈us,TOk n t)(n40:n<=40):∀t∈us,Sh t:=fun t ht=>by
 obtain⟨a,b,c,d⟩:=ok t ht;obtain⟨a1,a2,a3,a4⟩:=IG a;exact⟨yT b (by omega),yT (by omega) (by omega),yT a1 a2,yT (by omega) (by omega)⟩
theorem VD{ts:List Tie}(h:∀t∈ts,Sh t)(h64:ts.length<64):Fit 600000 4 (.tuple (aL ts)):=by
 obtain⟨h1,h2,h3⟩:=AZ h;refine⟨?_,?_,?_⟩
 .simp only[oks,h1]
 .simp only[wt];omega
 .simp only[PyData.depth];omega
theorem XZ:∀{us:List Tie}{s:Tie},(us.map Tie.key).Nodup->s∈us->lkC (aV us) s.key=some s.val
 |t::r,s,nd,hs=>by
  rw[C3,List.nodup_cons]at nd;unfold lkC aV;rw[C3,List.find?_cons];by_cases q:t.key=s.key
  .rw[C4 q];rcases List.mem_cons.mp hs with rfl|hs
   .rfl
   .exact absurd (q▸J0 hs) nd.1
  .rw[B8 q];rcases List.mem_cons.mp hs with rfl|hs
   .exact absurd rfl q
   .exact XZ nd.2 hs
theorem aFE{t:Tie}(nd:(us.map Tie.key).Nodup)(ht:t∈us)(hw:eP t.a t.b=true):tv (us.filter big) t.i t.j=.d (.tuple [.int t.a,.int t.b]):=by
 unfold tv;by_cases hb:big t=true
 .rw[show([.inl t.i,.inl t.j]:List Key)=t.key from rfl,XZ (jY nd) (List.mem_filter.mpr ⟨ht,hb⟩)];rfl
 .have a0:t.a=0/\t.b=1:=by
   have hb':=OL hw;have:big t=false:=by simpa using hb
   rw[this,Bool.not_eq_false',Bool.and_true,B3,beq_iff_eq,beq_iff_eq]at hb';exact hb'
  have:lkC (aV (us.filter big)) t.key=none:=PH fun s hs e=>by
   obtain⟨h1,h2⟩:=List.mem_filter.mp hs
   have:s=t:=by
    obtain⟨p,hp,ep⟩:=List.getElem_of_mem h1;obtain⟨q,hq,eq⟩:=List.getElem_of_mem ht;have:=(List.getElem_inj (h₀:=by rw[A9];exact hp) (h₁:=by rw[A9];exact hq) nd).mp (by rw[List.getElem_map,List.getElem_map,ep,eq];exact e);subst this;rw[<- ep,eq]
   rw[this]at h2;exact hb h2
  rw[show([.inl t.i,.inl t.j]:List Key)=t.key from rfl,this,a0.1,a0.2];rfl
structure kO(M:Sto)(w:Nat)(n:Int)(vs us:List Tie):Prop where
 web:bW M w n vs
 pw:vs.Pairwise Tie.lt
 pm:(vs.filter big).Perm (us.filter big)
 ok:Ok n us
theorem kO.tok{vs:List Tie}(h:kO M w n vs us):∀t∈vs.filter big,TOk n t:=fun t ht=>h.ok.1 t (List.mem_filter.mp (h.pm.subset ht)).1
theorem kO.nd(h:kO M w n vs us):((vs.filter big).map Tie.key).Nodup:=(h.pm.map Tie.key).nodup_iff.mpr (jY h.ok.2.1)
theorem kO.len(h:kO M w n vs us):(vs.filter big).length<=us.length:=by
 rw[h.pm.length_eq];exact E8 ..
noncomputable def next(us:List Tie)(t:Tie):List Tie:=us.filter (nk t.i t.j)++[t]
theorem GA{t:Tie}(ok:Ok n us)(ht:TOk n t)(hl:us.length<60):Ok n (next us t):=by
 obtain⟨h1,h2,h3⟩:=ok;have fl:(us.filter (nk t.i t.j)).length<=us.length:=E8 ..;refine⟨fun s hs=>?_,?_,by unfold next;rw[B2,C7,L7];omega⟩
 .rcases List.mem_append.mp hs with hs|hs
  .exact h1 s (List.mem_filter.mp hs).1
  .rw[List.mem_singleton.mp hs];exact ht
 .unfold next;rw[D8,O4];refine⟨(List.filter_sublist.map Tie.key).nodup h2,by simp,fun k hk k' hk' e=>?_⟩;obtain⟨s,hs,rfl⟩:=List.mem_map.mp hk;have:k'=t.key:=by simpa using hk'
  rw[this]at e;exact nk_iff.mp (List.mem_filter.mp hs).2 e
theorem yB{p q:Tie->Bool}:(us.filter p).filter q=(us.filter q).filter p:=by
 rw[List.filter_filter,List.filter_filter];congr 1;funext t;rw[Bool.and_comm]
theorem DT{ws vs':List Tie}{t:Tie}(pm:ws.Perm (us.filter big))(hp:vs'.Perm (ws.filter (nk t.i t.j)++[t])):(vs'.filter big).Perm ((next us t).filter big):=by
 have h1:=hp.filter big;rw[List.filter_append,yB]at h1;unfold next;rw[List.filter_append,yB (p:=nk t.i t.j)];refine h1.trans (List.Perm.append_right _ ?_)
 have h2:(ws.filter big).Perm (us.filter big):=by
  have:=pm.filter big
  rwa [List.filter_filter,show(fun a=>big a&&big a)=big from by funext a;rw[Bool.and_self]]at this
 exact h2.filter _
theorem bW.set'{k:Nat}(h:bW M w n vs)(h1:k≠w)(h2:k≠w+2):bW (M.set k c) w n vs:=
 ⟨by rw[D7 h1];exact h.1,by rw[D7 h2];exact h.2⟩
theorem aCx(ok:Ok n us)(p:vs.Perm us):Ok n vs:=⟨fun t ht=>ok.1 t (p.subset ht),(p.map Tie.key).nodup_iff.mpr ok.2.1,by rw[p.length_eq];exact ok.2.2⟩
theorem RC{k:Nat}(h:M[k]?=some (.lst [I a,I b])):eqY true (.c k) (.d (.list [.int a,.int b])) M=some (B false,M):=by
 have e1:eqX true (.c k) (.d (.list [.int a,.int b])) M=none:=rfl;have s1:snap 5 M (.c k)=some (.list [.int a,.int b]):=KI h;have sh:SeqAt.shaped (.list [.int a,.int b])=true:=rfl
 have ev:PyData.eqv (.list [.int a,.int b]) (.list [.int a,.int b])=true:=by
  show(a==a&&(b==b&&true))=true;simp
 have e2:eqC true (.c k) (.d (.list [.int a,.int b])) M=some (B false,M):=by
  unfold eqC;rw[s1,A1,hZ,A1,sh,Bool.and_self,A4 rfl,ev];rfl
 unfold eqY xG;rw[e1];exact e2
theorem aIx{M:Sto}{t:Tie}{x0 x1:CD}{i:Int}(hi:min i j=t.i)(hj:max i j=t.j)(hl:us.length<60):
 HX 5 (pG (aD 5) (kQ (aB (aM jL (aB (aD 2) (aB (aD 3) aI))) (aB (aM jX (aB (aD 2) (aB (aD 3) aI))) aI))) (aD 4)) [some x0,some x1,some (I i),some (I j),some (T2 t.a t.b),some (.c M.length),none,none,none,none] (M++[.dt (aV us)]) =
  some (.nx [some x0,some x1,some (I i),some (I j),some (T2 t.a t.b),some (fz (kD us t)),none,none,none,none],M++[.dead]):=by
 have kk:keysOf [I t.i,I t.j]=some [.inl t.i,.inl t.j]:=rfl;have len:(aV us).length<sizeLine:=by unfold aV;rw[A9,D5];omega
 have pi:putD (aV us) [.inl t.i,.inl t.j] (T2 t.a t.b)=aV (kD us t):=aFM us t
 have st:uK (M++[.dt (aV us)]) (.c M.length) (.inr [.inl t.i,.inl t.j]) (T2 t.a t.b)=some (M++[.dt (aV (kD us t))]):=by
  simp only[uK,gM,if_pos len,pi,rC]
 have d1:pG (aD 5) (kQ (aB (aM jL (aB (aD 2) (aB (aD 3) aI))) (aB (aM jX (aB (aD 2) (aB (aD 3) aI))) aI))) (aD 4) [some x0,some x1,some (I i),some (I j),some (T2 t.a t.b),some (.c M.length),none,none,none,none] (M++[.dt (aV us)])=some (.nx [some x0,some x1,some (I i),some (I j),some (T2 t.a t.b),some (.c M.length),none,none,none,none],M++[.dt (aV (kD us t))]):=by
  simp![pG,kQ,OC,PV,hi,hj,kk,z2,st]
 unfold HX;rw[d1,A1];show(DV 5 [some x0,some x1,some (I i),some (I j),some (T2 t.a t.b),some (.c M.length),none,none,none,none] (M++[.dt (aV (kD us t))])).bind _=_
 have f1:DV 5 [some x0,some x1,some (I i),some (I j),some (T2 t.a t.b),some (.c M.length),none,none,none,none] (M++[.dt (aV (kD us t))])=some ([some x0,some x1,some (I i),some (I j),some (T2 t.a t.b),some (fz (kD us t)),none,none,none,none],M++[.dead]):=by
  unfold DV;simp only[List.getElem?_cons_succ,List.getElem?_cons_zero,gM,AW,Option.bind_some,rC,List.set_cons_succ,List.set_cons_zero]
 rw[f1];rfl
theorem aAR{i:Int}(h:kO M w n vs us)(hl:us.length<58)(i0:0<=i)(i1:i<n)(j0:0<=j)(j1:j<n)(ne:i≠j)(n40:n<=40)(hw:eP a b=true):
 ∃L,jG [.c w,.d (.list (aL us)),I i,I j,T2 a b] M=some (B true,M++L):=by
 obtain⟨t,ht⟩:∃t:Tie,t=⟨min i j,max i j,a,b⟩:=⟨_,rfl⟩;have ti:min i j=t.i:=by rw[ht]
 have tj:max i j=t.j:=by rw[ht]
 have ta:t.a=a:=by rw[ht]
 have tb:t.b=b:=by rw[ht]
 have tok:TOk n t:=by rw[ht];exact⟨hw,show 0<=min i j by omega,show min i j<max i j by omega,show max i j<n by omega⟩
 have vl:(vs.filter big).length<60:=L4 h.len (by omega);obtain⟨N,hN⟩:∃N,N=M++[.dead]++[.lst [I a,I b]]:=⟨_,rfl⟩;have nl:N.length=M.length+2:=by rw[hN,B2,B2];rfl
 have wN:bW N w n vs:=by rw[hN];exact h.web.up.up
 have hk:N[M.length+1]?=some (.lst [I a,I b]):=by
  have:M.length+1=(M++[Cell.dead]).length:=by rw[B2];rfl
  rw[hN,this];exact gM
 obtain⟨L1,w1,vs1,c1,web1,pm1,pw1,lw1⟩:=rG (x:=T2 a b) (a:=a) (b:=b) wN h.tok h.nd vl i0 i1 j0 j1 ne n40 ⟨hw,.inl ⟨_,rfl,rfl⟩⟩;obtain⟨L2,w2,vs2,c2,web2,pm2,pw2,lw2⟩:=rG (x:=.c (M.length+1)) (a:=a) (b:=b) (wN.up (L:=L1)) h.tok h.nd vl j0 j1 i0 i1 (F0 ne) n40 ⟨hw,.inr ⟨_,rfl,fX hk⟩⟩;have sw:min j i=min i j/\max j i=max i j:=by omega
 rw[sw.1,sw.2]at pm2;rw[ti,tj,show(⟨t.i,t.j,a,b⟩:Tie)=t by rw[<- ta,<- tb]]at pm1 pm2;have e12:vs2=vs1:=sN pw2 pw1 (pm2.trans pm1.symm);subst e12;have nok:=GA h.ok tok (by omega);have npm:=DT h.pm pm1;have pp:=IF (t:=t) h.ok.2.1;have pok:Ok n (kD us t):=aCx nok pp;have ppm:(vs2.filter big).Perm ((kD us t).filter big):=npm.trans (pp.filter big).symm;have vok:∀s∈vs2.filter big,TOk n s:=fun s hs=>nok.1 s (List.mem_filter.mp (npm.subset hs)).1;have vlen:(vs2.filter big).length<64:=L4 (by rw[npm.length_eq];exact E8 ..) nok.2.2;have vsh:=aDH vok n40;have hz:(600000:Nat)<=sizeLine:=by rw[D5];decide
 have d0:=aGb (M:=M) (γ:=[some (.c w),some (.d (.list (aL us))),some (I i),some (I j),some (T2 a b),none,none,none,none,none]) rfl h.ok.2.1 h.ok.2.2;have d1:=aIx (M:=M) (us:=us) (t:=t) (x0:=.c w) (x1:=.d (.list (aL us))) ti tj (by omega);rw[ta,tb]at d1;have d2:=aGE (M:=M++[.dead]) (us:=kD us t) (γ:=[some (.c w),some (.d (.list (aL us))),some (I i),some (I j),some (T2 a b),some (fz (kD us t)),none,none,none,none]) pok.2.1 pok.2.2 rfl;have d3:gG [.d (.list (aL (kD us t)))] (M++[.dead])=some (.d (.tuple (bT vs2)),M++[.dead]):=aDv pok ppm pw1;have m0:=(h.web.up (L:=[.dead])).many (γ:=[some (.c w),some (.d (.list (aL us))),some (I i),some (I j),some (T2 a b),some (fz (kD us t)),none,none,none,none]) (f:=aD 0) rfl
 have rp:∀K,kF [.d (.tuple [.int n,.tuple (bT vs2)])] K=some (.d (.str (PyData.shown (.tuple [.int n,.tuple (bT vs2)]))),K):=fun K=>by
  rw[FP];exact yZ (aCN (yT (by omega) (by omega)) vsh (by omega)) (by rw[D5];decide)
 have ln:JI [T2 a b] (M++[.dead])=some (.c (M.length+1),N):=by
  have:M.length+1=(M++[Cell.dead]).length:=by rw[B2];rfl
  rw[hN,this];rfl
 obtain⟨N3,hN3⟩:∃N3,N3=N++L1++L2:=⟨_,rfl⟩;rw[<- hN3]at c2 web2;have web1':bW N3 w1 n vs2:=by rw[hN3];exact web1.up
 have wM':bW N3 w n vs:=by rw[hN3];exact wN.up.up
 have hk3:N3[M.length+1]?=some (.lst [I a,I b]):=by rw[hN3];exact fX (fX hk)
 have eh:=RC hk3;have lf:ED [T2 a b] N3=some (.d (.list [.int a,.int b]),N3):=rfl;have s7:BF (.c (M.length+1)) (I 0) (I 7) N3=some (N3.set (M.length+1) (.lst [I 7,I b])):=aDx hk3;have lt3:M.length+1<N3.length:=(List.getElem?_eq_some_iff.mp hk3).1;have hk4:(N3.set (M.length+1) (.lst [I 7,I b]))[M.length+1]?=some (.lst [I 7,I b]):=E1 lt3
 have ap:∀γ:Ga,γ[7]?=some (some (.c (M.length+1)))->uN "list" iG (aD 7) (aB (fC (.int 3)) aI) γ (N3.set (M.length+1) (.lst [I 7,I b]))=some (.d .none,N3.set (M.length+1) (.lst [I 7,I b,I 3])):=fun γ g7=>by
  have ty:tyB "list" (N3.set (M.length+1) (.lst [I 7,I b])) (.c (M.length+1))=true:=by
   simp only[tyB,hk4];rfl
  have l2:([I 7,I b]:List CD).length<sizeLine:=by rw[D5];show 2<16777216;decide
  unfold uN;simp only[aD,g7,Option.bind_some,ty,if_true,aB,aI,fC,iG,hk4,if_pos l2,List.set_set];rfl
 obtain⟨N5,hN5⟩:∃N5,N5=N3.set (M.length+1) (.lst [I 7,I b,I 3]):=⟨_,rfl⟩;rw[<- hN5]at ap;have wl:=(List.getElem?_eq_some_iff.mp h.web.2).1;have q1:bW N5 w1 n vs2:=by rw[hN5];exact web1'.set' (by omega) (by omega)
 have q2:bW N5 w2 n vs2:=by
  rw[hN5];have:(N++L1).length<=w2:=lw2;rw[B2]at this;exact web2.set' (by omega) (by omega)
 have q0:bW N5 w n vs:=by rw[hN5];exact wM'.set' (by omega) (by omega)
 have gm:∀γ:Ga,γ=[some (.c w),some (.d (.list (aL us))),some (I i),some (I j),some (T2 a b),some (fz (kD us t)),some (.d (.str (PyData.shown (.tuple [.int n,.tuple (bT vs2)])))),some (.c (M.length+1)),some (.c w1),some (.c w2)]->
  gF "Web" "many" (aD 8) γ N5=some (I n,N5)/\gF "Web" "ties" (aD 8) γ N5=some (.d (.tuple (bT vs2)),N5)/\gF "Web" "many" (aD 9) γ N5=some (I n,N5)/\gF "Web" "ties" (aD 9) γ N5=some (.d (.tuple (bT vs2)),N5)/\gF "Web" "ties" (aD 0) γ N5=some (.d (.tuple (bT vs)),N5)/\pF "Web" "tie" eU (aD 8) (aB (aD 3) (aB (aD 2) aI)) γ N5=some (T2 a b,N5):=by
  rintro γ rfl;refine⟨q1.many rfl,q1.ties rfl,q2.many rfl,q2.ties rfl,q0.ties rfl,?_⟩;rw[YJ q1 rfl rfl rfl (a:=j) (b:=i),NG,MZ,sw.1,sw.2,ti,tj]
  have nd2:(vs2.map Tie.key).Nodup:=by
   have:=((GA (us:=vs.filter big) (t:=t) ⟨h.tok,h.nd,by omega⟩ tok vl).2.1);exact(pm1.map Tie.key).nodup_iff.mpr this
  have:=aFE (us:=vs2) (t:=t) nd2 (pm1.mem_iff.mpr (B9 _ B5)) (by rw[ta,tb];exact hw);rw[ta,tb]at this;rw[this]
 obtain⟨g1,g2,g3,g4,g5,g6⟩:=gm _ rfl
 have rt:kF [T2 a b] N5=some (.d (.str (PyData.shown (.tuple [.int a,.int b]))),N5):=by
  rw[FP];obtain⟨a1,a2,a3,a4⟩:=IG hw;exact yZ (aBj (yT a1 a2) (yT (by omega) (by omega))) (by rw[D5];decide)
 have rv:kF [.d (.tuple (bT vs))] N5=some (.d (.str (PyData.shown (.tuple (bT vs)))),N5):=by
  rw[FP];exact yZ (VD (aDH h.tok n40) (by omega)) (by rw[D5];decide)
 have dv:gG [.d (.list (aL us))] N5=some (.d (.tuple (bT vs)),N5):=aDv h.ok h.pm h.pw
 have fin:N5=M++([Cell.dead,.lst [I 7,I b,I 3]]++L1++L2):=by
  rw[hN5,hN3,hN,C1,C1,C1,Y0 _ _ (by omega),show M.length+1-M.length=1 by omega];simp
 refine⟨[Cell.dead,.lst [I 7,I b,I 3]]++L1++L2,?_⟩;rw[<- fin];have c1':eI [.c w,I i,I j,T2 a b] N=some (.v (.c w1),N++L1):=c1;have ap':=ap [some (.c w),some (.d (.list (aL us))),some (I i),some (I j),some (T2 a b),some (fz (kD us t)),some (.d (.str (PyData.shown (.tuple [.int n,.tuple (bT vs2)])))),some (.c (M.length+1)),some (.c w1),some (.c w2)] rfl;simp![jG,nN,d0,d1,d2,d3,m0,z2,rp,ln,c1',c2,eh,lf,s7,ap',g1,g2,g3,g4,g5,g6,aIO,eSS,rt,rv,dv]
noncomputable def lw(lo hi:Int):PyData->Bool
 |.int i=>decide (lo<=i)&&decide (i<=hi)
 |_=>false
theorem aAH(p:PyData)(lo hi:Int)(M:Sto):eC [.d p,I lo,I hi] M=some (B (lw lo hi p),M):=by
 cases p with
 |int i=>
  have hc:lw lo hi (.int i)=(decide (lo<=i)&&decide (i<=hi)):=rfl;have w1:sO "int" (.int i)=true:=rfl;have w2:sO "bool" (.int i)=false:=rfl;rw[hc];cases h0:decide (lo<=i)<;>simp![eC,iY,w1,w2,h0,Bool.true_and,Bool.false_and]
 |_=>rfl
theorem yS:lw 0 (n-1) p=plc n p:=by
 cases p with
 |int i=>
  show(decide (0<=i)&&decide (i<=n-1))=(decide (0<=i)&&decide (i<n));congr 1;by_cases h:i<n
  .rw[C4 h,C4 (show i<=n-1 by omega)]
  .rw[B8 h,B8 (show ¬i<=n-1 by omega)]
 |_=>rfl
noncomputable def rL(s:Str):PyData:=.tuple [.str s,.bool true,.bool false,.bool false,.bool false,.bool false]
noncomputable def ZN(n:Int)(u b:Bool):PyData:=if u=true then(if b=true then .tuple [.str "web",.int n]else rL "weight")else rL "place"
theorem aEn{x:PyData}(ho:oks x=true):dP [I n,.d p,.d q,.d x] M=some (.d (ZN n (ulk n p q) (dY x)),M):=by
 have k0:∀γ:Ga,lV γ M=some (.d (rL "place"),M):=fun γ=>BJ γ M;have k1:∀γ:Ga,mD γ M=some (.d (rL "weight"),M):=fun γ=>yA γ M;have no:∀u,u=false->ZN n u (dY x)=rL "place":=fun u h=>by rw[h];rfl
 cases h1:plc n p with
 |false=>
  have hu:ulk n p q=false:=by
   unfold ulk;split
   .rw[h1];rfl
   .rfl
  rw[no _ hu];simp![dP,eR,aAH,yS,h1,k0]
 |true=>
  cases h2:plc n q with
  |false=>
   have hu:ulk n p q=false:=by
    unfold ulk;split
    .rw[h2,Bool.false_and,Bool.and_false]
    .rfl
   rw[no _ hu];simp![dP,eR,aAH,yS,h1,h2,k0]
  |true=>
   obtain⟨i,rfl,_⟩:=rJ h1;obtain⟨j,rfl,_⟩:=rJ h2;have hu:ulk n (.int i) (.int j)=!(i==j):=by show(plc n (.int i)&&(plc n (.int j)&&!(i==j)))=_;rw[h1,h2];rfl
   cases e:(i==j)with
   |true=>
    rw[no _ (by rw[hu,e];rfl)];simp![dP,eR,aAH,yS,h1,h2,xE,e,k0]
   |false=>
    rw[hu,e];cases hw:dY x with
    |false=>
     show _=some (CD.d (rL "weight"),M);simp![dP,eR,aAH,yS,h1,h2,xE,e,oI x M ho,hw,k1]
    |true=>
     show _=some (CD.d (.tuple [.str "web",.int n]),M);simp![dP,eR,aAH,yS,h1,h2,xE,e,oI x M ho,hw,z2]
theorem SN{w:PyData}(h:dY w=true):∃a b,bJ w=some [.int a,.int b]/\eP a b=true:=by
 unfold dY at h;split at h
 .rename_i a b e;exact⟨a,b,e,h⟩
 .cases h
theorem DZ{x:PyData}{e:Exc}(h:bW M w n vs)(hr:aBr (ulk n p q) (dY x)=.x e):eI [.c w,.d p,.d q,.d x] M=some (.x e,M):=by
 have rf:=KU h (p:=p) (q:=q) (KQ x M);rw[hr]at rf;simp![eI,rF,rf]
theorem aHA{s:Str}{a b c d e:Bool}:dW (.d (.tuple [.str s,.bool a,.bool b])) (.d (.tuple [.bool c,.bool d,.bool e])) M=some (.d (.tuple [.str s,.bool a,.bool b,.bool c,.bool d,.bool e]),M):=
 cat_tup [.str s,.bool a,.bool b] [.bool c,.bool d,.bool e] M (sz (show 6<=1000 by decide))
theorem SD{x:PyData}(h:kO M w n vs us)(hl:us.length<60)(n40:n<=40):∃L,dM [.c w,.d p,.d q,.d x] M=some (.d (ZN n (ulk n p q) (dY x)),M++L):=by
 cases hu:ulk n p q with
 |false=>
  have cx:=DZ h.web (p:=p) (q:=q) (x:=x) (e:=⟨"NoPlace",[]⟩) (by rw[hu];rfl);have ex:(M++[Cell.exc false "NoPlace" []])[M.length]?=some (.exc false "NoPlace" []):=gM;have t1:([("NoPlace",true),("NoTie",false),("NoWeight",false)]:List (Str×Bool)).lookup ("NoPlace":Str)=some true:=by decide
  have c1:dR.lookup ("NoPlace":Str)=some true:=by decide
  have c2:cV.lookup ("NoPlace":Str)=some true:=by decide
  have c3:iS.lookup ("NoPlace":Str)=some false:=by decide
  have c4:iU.lookup ("NoPlace":Str)=some false:=by decide
  have c5:fF.lookup ("NoPlace":Str)=some false:=by decide
  have c6:gO.lookup ("NoPlace":Str)=some false:=by decide
  refine⟨[.exc false "NoPlace" []],?_⟩;show _=some (CD.d (rL "place"),_);simp![dM,fA,fI,mF,SB,zF,RI,cx,t1,ex,c1,c2,c3,c4,c5,c6,z3,aHA,rL]
 |true=>
  obtain⟨i,j,rfl,rfl,i0,i1,j0,j1,ne⟩:∃i j,p=.int i/\q=.int j/\0<=i/\i<n/\0<=j/\j<n/\i≠j:=by
   unfold ulk at hu;split at hu
   .rename_i i j;rw[B3,B3]at hu;obtain⟨i',e1,q1,q2⟩:=rJ hu.1;obtain⟨j',e2,q3,q4⟩:=rJ hu.2.1;cases e1;cases e2;exact⟨i,j,rfl,rfl,q1,q2,q3,q4,by simpa using hu.2.2⟩
   .cases hu
  cases hw:dY x with
  |false=>
   have cx:=DZ h.web (p:=.int i) (q:=.int j) (x:=x) (e:=⟨"NoWeight",[]⟩) (by rw[hu,hw];rfl);have ex:(M++[Cell.exc false "NoWeight" []])[M.length]?=some (.exc false "NoWeight" []):=gM;have t1:([("NoPlace",true),("NoTie",false),("NoWeight",false)]:List (Str×Bool)).lookup ("NoWeight":Str)=some false:=by decide
   have t2:([("NoPlace",false),("NoTie",false),("NoWeight",true)]:List (Str×Bool)).lookup ("NoWeight":Str)=some true:=by decide
   have c1:dR.lookup ("NoWeight":Str)=some true:=by decide
   have c2:cV.lookup ("NoWeight":Str)=some true:=by decide
   have c3:kB.lookup ("NoWeight":Str)=some false:=by decide
   have c4:iU.lookup ("NoWeight":Str)=some false:=by decide
   have c5:fF.lookup ("NoWeight":Str)=some false:=by decide
   have c6:gO.lookup ("NoWeight":Str)=some false:=by decide
   refine⟨[.exc false "NoWeight" []],?_⟩;show _=some (CD.d (rL "weight"),_);simp![dM,fA,fI,mG,SB,zF,RI,cx,t1,t2,ex,c1,c2,c3,c4,c5,c6,z3,aHA,rL]
  |true=>
   obtain⟨a,b,w1,w2⟩:=SN hw;obtain⟨L,w',vs',c1,web,_⟩:=rG (x:=.d x) h.web h.tok h.nd (L4 h.len hl) i0 i1 j0 j1 ne n40 ⟨w2,.inl ⟨x,rfl,w1⟩⟩;have lk:List.lookup ("many":Str) [("many",I n),("ties",.d (.tuple (bT vs'))),("weights",.c (w'+2))]=some (I n):=rfl;refine⟨L,?_⟩;show _=some (CD.d (.tuple [.str "web",.int n]),_);simp![dM,fA,fI,SB,zF,RI,c1,web.obj,lk,z2]
theorem AY(lo:Int)(m:Nat):kP lo (m+1)=I lo::kP (lo+1) m:=by
 unfold kP;rw[List.range_succ_eq_map,C3,S3];congr 1
 .show CD.d (.int (lo+((0:Nat):Int)))=_;rw[show lo+((0:Nat):Int)=lo by omega]
 .refine Z1 fun i _=>?_;show CD.d (.int (lo+((i+1:Nat):Int)))=.d (.int (lo+1+(i:Nat)));rw[show lo+((i+1:Nat):Int)=lo+1+(i:Nat)by omega]
theorem slL(xs:List PyData)(lo hi:Option Int)(M:Sto):slF (.d (.list xs)) lo hi M=some (.d (.list (fS xs lo hi)),M):=rfl
theorem YM{ys:List PyData}(hl:(xs++ys).length<=sizeLine):dW (.d (.list xs)) (.d (.list ys)) M=some (.d (.list (xs++ys)),M):=by
 have a:aBJ (.d (.list xs)) (.d (.list ys)) M=none:=rfl
 have c:HI (.d (.list xs)) (.d (.list ys)) M=some (.d (.list (xs++ys)),M):=by
  unfold HI;simp only[rT,Option.bind_some];rw[<- D8,mM,A1,A4 hl]
 unfold dW xG;rw[a];dsimp only;rw[c]
theorem aFz{r:Nat}(h:r<=xs.length):fS xs none (some (r:Int))=xs.take r:=by
 unfold fS;rw[HT.sIx_none,HT.sIx_nat,List.drop_zero,Nat.sub_zero,Nat.min_eq_left h]
theorem UI{r:Nat}(h:r<=xs.length):fS xs (some (r:Int)) none=xs.drop r:=by
 unfold fS;rw[HT.sIx_none,HT.sIx_nat,Nat.min_eq_left h,List.take_of_length_le];rw[Y2];exact A7 _
theorem YV{n c j i:Int}{g6:Option CD}(h:Stm M s)(h64:us.length<64):
 ∃us' g M',eF [some (.c s),some (I n),some (I c),some (.d (.list (aL us))),some (I j),some (I i),g6] M=some (.nx [some (.c s),some (I n),some (I c),some (.d (.list (aL us'))),some (I j),some (I i),g],M')/\Stm M' s/\(us'=us\/∃a b,eP a b=true/\us'.Perm (⟨i,j,a,b⟩::us)):=by
 obtain⟨r,M1,e1,r0,r1,n1⟩:=dG (m:=4) h (by decide) (by decide);have h1:=n1.stm h;by_cases q:r<c
 .have ln:mB [.d (.list (aL us))] M1=some (I us.length,M1):=by
   unfold mB;dsimp only;rw[show bJ (.list (aL us))=some (aL us)from rfl,A1,eB]
  obtain⟨k,M2,e2,k0,k1,n2⟩:=dG (m:=(us.length:Int)+1) h1 (by omega) (by
   have:(2:Int) ^ 200=1606938044258990275541962092341162602522202993782792835301376:=by decide
   omega)
  have h2:=n2.stm h1;obtain⟨a,b,M3,e3,w3,n3⟩:=yD h2;have h3:=n3.stm h2;obtain⟨k,rfl⟩:∃z:Nat,k=(z:Int):=⟨k.toNat,by omega⟩;have kl:k<=(aL us).length:=by rw[eB];omega
  have rr:aL us=(aL us).take k++(aL us).drop k:=(List.take_append_drop ..).symm;have c1:=aFz kl;have c2:=UI kl;have lt:((aL us).take k).length<=us.length:=by rw[Y1,eB];omega
  have ld:((aL us).drop k).length<=us.length:=by rw[Y2,eB];omega
  have a1:dW (.d (.list ((aL us).take k))) (.d (.list [.tuple [.int i,.int j,.tuple [.int a,.int b]]])) M3=some (.d (.list ((aL us).take k++[.tuple [.int i,.int j,.tuple [.int a,.int b]]])),M3):=YM (sz (by rw[B2,C7,L7];omega));have a2:dW (.d (.list ((aL us).take k++[.tuple [.int i,.int j,.tuple [.int a,.int b]]]))) (.d (.list ((aL us).drop k))) M3=some (.d (.list ((aL us).take k++[.tuple [.int i,.int j,.tuple [.int a,.int b]]]++(aL us).drop k)),M3):=YM (sz (by rw[B2,B2,C7,L7];omega))
  have er:(aL us).take k++[.tuple [.int i,.int j,.tuple [.int a,.int b]]]++(aL us).drop k=aL (us.take k++[⟨i,j,a,b⟩]++us.drop k):=by
   unfold aL;rw[D8,D8,List.map_take,List.map_drop];rfl
  have e3:bQ [.c s] M2=some (.d (.tuple [.int a,.int b]),M3):=e3;refine⟨us.take k++[⟨i,j,a,b⟩]++us.drop k,some (I k),M3,?_,h3,.inr ⟨a,b,w3,?_⟩⟩
  .rw[<- er];simp![eF,fSl,eO,lB,e1,decide_eq_true q,ln,tM,e2,slL,QK,c1,c2,e3,z1,z2,z3,a1,a2]
  .rw[C1];have p:=List.perm_middle (a:=(⟨i,j,a,b⟩:Tie)) (l₁:=us.take k) (l₂:=us.drop k);rw[List.take_append_drop]at p;exact p
 .refine⟨us,g6,M1,?_,h1,.inl rfl⟩;simp![eF,e1,decide_eq_false q]
structure Dr(n J K:Int)(us:List Tie):Prop where
 ok:∀t∈us,(eP t.a t.b=true/\0<=t.i/\t.i<t.j/\t.j<n)/\(t.j<J\/(t.j=J/\t.i<K))
 nd:(us.map Tie.key).Nodup
theorem Dr.more{K a b:Int}{us':List Tie}(d:Dr n J K us)(k0:0<=K)(kj:K<J)(jn:J<n)(h:us'=us\/∃a b,eP a b=true/\us'.Perm (⟨K,J,a,b⟩::us)):Dr n J (K+1) us'/\us'.length<=us.length+1:=by
 rcases h with rfl|⟨a,b,w,p⟩
 .exact⟨⟨fun t ht=>⟨(d.ok t ht).1,by have:=(d.ok t ht).2;omega⟩,d.nd⟩,by omega⟩
 .refine⟨⟨fun t ht=>?_,?_⟩,by rw[p.length_eq,C7];exact A7 _⟩
  .rcases List.mem_cons.mp (p.subset ht)with rfl|ht
   .exact⟨⟨w,k0,kj,jn⟩,.inr ⟨rfl,by show K<K+1;omega⟩⟩
   .exact⟨(d.ok t ht).1,by have:=(d.ok t ht).2;omega⟩
  .rw[(p.map Tie.key).nodup_iff,C3,List.nodup_cons];refine⟨fun z=>?_,d.nd⟩;obtain⟨t,ht,e⟩:=List.mem_map.mp z;have e:([.inl t.i,.inl t.j]:List Key)=[.inl K,.inl J]:=e;injection e with e1 e2
   injection e2 with e2 _
   injection e1 with e1
   injection e2 with e2
   have:=(d.ok t ht).2;omega
theorem inner{s:Nat}{n c j:Int}(jn:j<n):∀(m:Nat)(i:Int)(us:List Tie)(g5 g6:Option CD)(M:Sto),0<=i->i+m=j->Stm M s->Dr n j i us->us.length+m<64->
 ∃us' g g' M',pX (hName 5) eF (kP i m) [some (.c s),some (I n),some (I c),some (.d (.list (aL us))),some (I j),g5,g6] M=some (.nx [some (.c s),some (I n),some (I c),some (.d (.list (aL us'))),some (I j),g,g'],M')/\Stm M' s/\Dr n j j us'/\us'.length<=us.length+m
 |0=>fun i us g5 g6 M i0 hi h d _=>⟨us,g5,g6,M,rfl,h,by rwa [show i=j by omega]at d,A7 _⟩
 |m+1=>fun i us g5 g6 M i0 hi h d hl=>by
  obtain⟨us1,g,M1,e1,h1,q⟩:=YV (n:=n) (c:=c) (j:=j) (i:=i) (g6:=g6) h (us:=us) (by omega);obtain⟨d1,l1⟩:=d.more (a:=0) (b:=0) i0 (by omega) jn q;obtain⟨us2,g2,g3,M2,e2,h2,d2,l2⟩:=inner jn m (i+1) us1 (some (I i)) g M1 (by omega) (by omega) h1 d1 (by omega);refine⟨us2,g2,g3,M2,?_,h2,d2,by omega⟩;rw[AY];unfold pX;simp only[hName,List.set_cons_zero,List.set_cons_succ,List.length_cons,Option.bind_some,e1];exact e2
noncomputable def tri:Nat->Nat
 |0=>0
 |k+1=>tri k+k
theorem UY(h0:0<=J)(h1:J<=40):iI J=true:=by
 simp only[iI,Bool.and_eq_true,decide_eq_true_eq];omega
theorem aDc{x0 x1 x2 x3:CD}{g5:Option CD}{γ':Ga}(h0:0<=J)(h1:J<=40)(e:pX (hName 5) eF (kP 0 J.toNat) [some x0,some x1,some x2,some x3,some (I J),g5,g6] M=some (.nx γ',M')):eG [some x0,some x1,some x2,some x3,some (I J),g5,g6] M=some (.nx γ',M'):=by
 have sm:=UY h0 h1;simp![eG,xK,kY,sm,e]
theorem ZY(k:Nat):tri (k+1)=tri k+k:=rfl
theorem aIF{j:Nat}(h:j<=8):tri j<=28:=by
 have:j=0\/j=1\/j=2\/j=3\/j=4\/j=5\/j=6\/j=7\/j=8:=by omega
 rcases this with rfl|rfl|rfl|rfl|rfl|rfl|rfl|rfl|rfl<;>decide
theorem XX{c:Int}(n9:n<=9){j:Nat}{g4 g5 g6:Option CD}(hj:(j:Int)<n)(h:Stm M s)(d:Dr n j 0 us)(l:us.length<=tri j):
 ∃us' g' g'' M',eG [some (.c s),some (I n),some (I c),some (.d (.list (aL us))),some (I j),g5,g6] M=some (.nx [some (.c s),some (I n),some (I c),some (.d (.list (aL us'))),some (I j),g',g''],M')/\Stm M' s/\Dr n ((j+1:Nat):Int) 0 us'/\us'.length<=tri (j+1):=by
 have t8:=aIF (j:=j) (by omega);obtain⟨us1,g,g',M1,e1,h1,d1,l1⟩:=inner (s:=s) (n:=n) (c:=c) (j:=(j:Int)) hj j 0 us g5 g6 M (by omega) (by omega) h d (by omega);have d2:Dr n ((j+1:Nat):Int) 0 us1:=⟨fun t ht=>⟨(d1.ok t ht).1,by have:=(d1.ok t ht).2;omega⟩,d1.nd⟩;refine⟨us1,g,g',M1,?_,h1,d2,by rw[ZY];omega⟩;exact aDc (by omega) (by omega) (by rw[U6];exact e1)
theorem outer{c:Int}(n9:n<=9)(m:Nat):∀(j:Nat)(us:List Tie)(g4 g5 g6:Option CD)(M:Sto),((j+m:Nat):Int)=n->Stm M s->Dr n j 0 us->us.length<=tri j->
 ∃us' g g' g'' M',pX (hName 4) eG (kP j m) [some (.c s),some (I n),some (I c),some (.d (.list (aL us))),g4,g5,g6] M=some (.nx [some (.c s),some (I n),some (I c),some (.d (.list (aL us'))),g,g',g''],M')/\Stm M' s/\Dr n n 0 us'/\us'.length<=tri (j+m):=by
 induction m with
 |zero=>intro j us g4 g5 g6 M hj h d l;exact⟨us,g4,g5,g6,M,rfl,h,by rwa [show((j:Nat):Int)=n by omega]at d,l⟩
 |succ m ih=>
  intro j us g4 g5 g6 M hj h d l;obtain⟨us1,g,g',M1,e1,h1,d1,l1⟩:=XX (c:=c) (g4:=g4) (g5:=g5) (g6:=g6) n9 (j:=j) (us:=us) (M:=M) (by omega) h d l;obtain⟨us2,q1,q2,q3,M2,e2,h2,d2,l2⟩:=ih (j+1) us1 (some (I j)) g g' M1 (by omega) h1 d1 l1;refine⟨us2,q1,q2,q3,M2,?_,h2,d2,by rwa [show j+(m+1)=j+1+m by omega]⟩;rw[AY,show((j:Nat):Int)+1=((j+1:Nat):Int)by omega];unfold pX;rw[show hName 4 (I j) [some (.c s),some (I n),some (I c),some (.d (.list (aL us))),g4,g5,g6] M=some ([some (.c s),some (I n),some (I c),some (.d (.list (aL us))),some (I j),g5,g6],M)from rfl,A1,e1,A1];exact e2
theorem aEW(h:Stm M s)(n1:1<=n)(n9:n<=9):∃us M',kS [.c s,I n] M=some (.d (.list (aL us)),M')/\Stm M' s/\Ok n us/\us.length<=36:=by
 obtain⟨c,M1,e1,c0,c1,m1⟩:=dG (m:=4) h (by decide) (by decide);obtain⟨us,g,g',g'',M2,e2,h2,d2,l2⟩:=outer (s:=s) (n:=n) (c:=c) n9 n.toNat 0 [] none none none M1 (by omega) (m1.stm h) ⟨fun t ht=>(by cases ht),List.nodup_nil⟩ (A7 _);have e2:pX (hName 4) eG (kP 0 n.toNat) [some (.c s),some (I n),some (I c),some (.d (.list [])),none,none,none] M1=_:=e2
 have t9:tri (0+n.toNat)<=36:=by
  obtain⟨k,hk⟩:∃k,n.toNat=k:=⟨_,rfl⟩;rw[hk];have:k=0\/k=1\/k=2\/k=3\/k=4\/k=5\/k=6\/k=7\/k=8\/k=9:=by omega
  rcases this with rfl|rfl|rfl|rfl|rfl|rfl|rfl|rfl|rfl|rfl<;>decide
 refine⟨us,M2,?_,h2,⟨fun t ht=>(d2.ok t ht).1,d2.nd,by omega⟩,by omega⟩
 have sm:iI n=true:=by
  simp only[iI,Bool.and_eq_true,decide_eq_true_eq];omega
 have z0:(0:Nat)<=sizeLine:=E3 _;simp![kS,pL,xK,kY,e1,z0,sm,e2]
theorem aAJ(h:Stm M i)(h0:0<ds.length)(h1:ds.length<1000):∃d M',dD [.c i,.d (.list ds)] M=some (.d d,M')/\d∈ds/\Stm M' i/\Kp i M M':=by
 obtain⟨d,M',e,hd,n⟩:=WW h h0 h1;exact⟨d,M',e,hd,n.stm h,n.kp⟩
theorem TV{i:Int}(h:i.natAbs<2 ^ 200):oks (.int i)=true:=(Fit.int (cY h)).ok
theorem qY(ha:a.natAbs<2 ^ 200)(hb:b.natAbs<2 ^ 200):oks (.tuple [.int a,.int b])=true:=(qR ha hb).ok
noncomputable def aIP(n:Int)(d:PyData):List PyData:=[.int n,.int (-1),.bool true,.none,.str "0",.tuple [.int 0],.int (10 ^ (30:Int).toNat),.int 0,d]
noncomputable def aEz(d:PyData):List PyData:=[.tuple [.int 2,.int 2],.tuple [.int 0,.int 2],.tuple [.int 1,.int 13],.tuple [.int 1000000000001,.int 1],.int 1,.none,.bool true,.tuple [],.tuple [.int (-1),.int 1],d]
theorem WX{d:PyData}(hd:oks d=true):∀x∈aEz d,oks x=true:=by
 intro x hx;unfold aEz at hx;simp only[List.mem_cons,List.not_mem_nil,or_false]at hx;rcases hx with rfl|rfl|rfl|rfl|rfl|rfl|rfl|rfl|rfl|rfl
 .exact qY (by decide) (by decide)
 .exact qY (by decide) (by decide)
 .exact qY (by decide) (by decide)
 .exact qY (by decide) (by decide)
 .exact TV (by decide)
 .rfl
 .rfl
 .rfl
 .exact qY (by decide) (by decide)
 .exact hd
theorem aIE(h:Stm M s):∃p x y M',nR [.c s,Sc ns,I n] M=some (.d (.tuple [p,x,y]),M')/\oks x=true/\oks y=true/\Stm M' s/\Kp s M M':=by
 obtain⟨d1,M1,e1,f1,s1,k1⟩:=ZZ (ns:=ns) 4 2 (by decide) h;obtain⟨d2,M2,e2,f2,s2,k2⟩:=ZZ (ns:=ns) 4 2 (by decide) s1;obtain⟨p,M3,e3,_,s3,k3⟩:=aAJ (ds:=aIP n d1) s2 (show 0<9 by decide) (show 9<1000 by decide);obtain⟨x,M4,e4,hx,s4,k4⟩:=aAJ (ds:=aEz d2) s3 (show 0<10 by decide) (show 10<1000 by decide);obtain⟨a,b,M5,e5,hw,n5⟩:=yD s4;have s5:=n5.stm s4;obtain⟨a1,a2,a3,a4⟩:=IG hw
 obtain⟨es,M6,e6,hr,n6⟩:=aFy (ds:=[.int a,.int b]) (n:=2) s5 ⟨fun d hd=>by
  simp only[List.mem_cons,List.not_mem_nil,or_false]at hd;rcases hd with rfl|rfl
  .exact(Fit.int (cY (by omega))).mono (by decide) (by decide)
  .exact(Fit.int (cY (by omega))).mono (by decide) (by decide),A7 _⟩ (by show 0<2;decide) (by decide)
 refine⟨p,x,.tuple es,M6,?_,WX f2.1.ok x hx,(Fit.tuple hr.fit hr.len).ok,n6.stm s5,((((k1.trans k2).trans k3).trans k4).trans n5.kp).trans n6.kp⟩;have c1:(((2:Nat):Int))=2:=rfl;rw[c1]at e1 e2;have p30:uQ 10 30=true:=by decide
 have e3':dD [.c s,.d (.list [.int n,.int (-1),.bool true,.none,.str "0",.tuple [.int 0],.int (10 ^ (30:Int).toNat),.int 0,d1])] M2=some (.d p,M3):=e3;have e4':dD [.c s,.d (.list [.tuple [.int 2,.int 2],.tuple [.int 0,.int 2],.tuple [.int 1,.int 13],.tuple [.int 1000000000001,.int 1],.int 1,.none,.bool true,.tuple [],.tuple [.int (-1),.int 1],d2])] M3=some (.d x,M4):=e4;have e6':eZ [.c s,.d (.tuple [.int a,.int b])] M5=some (.d (.tuple es),M6):=e6;have e5':bQ [.c s] M4=some (.d (.tuple [.int a,.int b]),M5):=e5;simp![nR,sL,CM,CC,CA,BY,CG,CF,BW,p30,e1,e2,z9,z10,z0,e3',e4',e5',e6',z3]
theorem zD{g:GF}{b:SF}(Inv:Ga->Sto->Prop):∀xs:List CD,(∀x∈xs,∀γ M,Inv γ M->∃γ1 M1 γ' M',g x γ M=some (γ1,M1)/\b γ1 M1=some (.nx γ',M')/\Inv γ' M')->∀γ M,Inv γ M->∃γ' M',pX g b xs γ M=some (.nx γ',M')/\Inv γ' M'
 |[]=>fun _ γ M h=>⟨γ,M,rfl,h⟩
 |x::xs=>fun hs γ M h=>by
  obtain⟨γ1,M1,γ2,M2,e1,e2,h2⟩:=hs x B5 γ M h;obtain⟨γ',M',e3,h3⟩:=zD Inv xs (fun y hy=>hs y (B4 _ hy)) γ2 M2 h2;refine⟨γ',M',?_,h3⟩;unfold pX;rw[e1,A1];dsimp only;rw[e2,A1];exact e3
theorem bW.kp(h:bW M w n vs)(k:Kp s M M')(sw:s<w):bW M' w n vs:=⟨k _ _ (by omega) h.1,k _ _ (by omega) h.2⟩
theorem kO.kp(h:kO M w n vs us)(k:Kp s M M')(sw:s<w):kO M' w n vs us:=⟨h.web.kp k sw,h.pw,h.pm,h.ok⟩
theorem kO.app(h:kO M w n vs us):kO (M++L) w n vs us:=⟨h.web.up,h.pw,h.pm,h.ok⟩
theorem Stm.app(h:Stm M s):Stm (M++L) s:=by
 obtain⟨a,b,h,r⟩:=h;exact⟨a,b,fX h,r⟩
theorem aEP(n:Int)(u b:Bool)(M:Sto):eqX true (.d (ZN n u b)) (.d (ZN n u b)) M=some (B false,M):=by
 have key:∀ds,SeqAt.shaped (.tuple ds)=true->PyData.eqv (.tuple ds) (.tuple ds)=true->eqX true (.d (.tuple ds)) (.d (.tuple ds)) M=some (B false,M):=fun ds h1 h2=>by
  show(if (SeqAt.shaped (.tuple ds)&&SeqAt.shaped (.tuple ds))=true then some (B (!PyData.eqv (.tuple ds) (.tuple ds)),M)else none)=_;rw[h1,h2];rfl
 have pl:∀s:Str,PyData.canLay0 (.str s)=true->eqX true (.d (rL s)) (.d (rL s)) M=some (B false,M):=fun s hs=>by
  have h1:SeqAt.shaped (rL s)=true:=by
   unfold SeqAt.shaped rL;show((PyData.canLay0 (.str s)&&(true&&(true&&(true&&(true&&(true&&true))))))&&_)=true;rw[hs];rfl
  have h2:PyData.eqv (rL s) (rL s)=true:=by
   show(s==s&&_)=true;simp;rfl
  exact key _ h1 h2
 cases u with
 |false=>exact pl "place" (by decide +kernel)
 |true=>
  cases b with
  |false=>exact pl "weight" (by decide +kernel)
  |true=>
   have h1:SeqAt.shaped (.tuple [.str "web",.int n])=true:=by
    unfold SeqAt.shaped;show((PyData.canLay0 (.str "web")&&(true&&true))&&_)=true;rw[show PyData.canLay0 (.str "web")=true by decide +kernel];rfl
   have h2:PyData.eqv (.tuple [.str "web",.int n]) (.tuple [.str "web",.int n])=true:=by
    show(("web":Str)=="web"&&(n==n&&true))=true;simp
   exact key _ h1 h2
noncomputable abbrev LGa(ns:List Int)(k:CD)(s:Nat)(n:Int)(us:List Tie)(w:Nat)(r:List (Option CD)):Ga:=some (Sc ns)::some k::some (.c s)::some (I n)::some (.d (.list (aL us)))::some (.c w)::r
theorem ask{ns:List Int}{k:CD}{s:Nat}{g6 g7 g8 g9 g10 g11 g12:Option CD}{p q x:PyData}(h:kO M w n vs us)(hl:us.length<60)(n40:n<=40)(ho:oks x=true):
 ∃L,uC (LGa ns k s n us w [g6,g7,g8,g9,g10,g11,g12,some (.d p),some (.d q),some (.d x)]) M=some (.nx (LGa ns k s n us w [g6,g7,g8,g9,g10,g11,g12,some (.d p),some (.d q),some (.d x)]),M++L):=by
 obtain⟨L,e1⟩:=SD (p:=p) (q:=q) (x:=x) h hl n40;refine⟨L,?_⟩;have e2:=aEn (n:=n) (p:=p) (q:=q) (x:=x) (M:=M++L) ho;simp![uC,e1,e2,aEP]
theorem aFX{ts:List Tie}{i:Int}(h:∀t∈ts,TOk n t):∃a b,tv ts i j=T2 a b/\eP a b=true:=by
 unfold tv lkC;cases e:(aV ts).find? fun kv=>decide (kv.1=[.inl i,.inl j])with
 |none=>exact⟨0,1,rfl,by decide⟩
 |some p=>
  have hp:=List.mem_of_find?_eq_some e;obtain⟨t,ht,rfl⟩:=List.mem_map.mp hp;exact⟨t.a,t.b,rfl,(h t ht).1⟩
theorem three{c d:Int}(h0:0<=r)(h1:r<3)(hab:eP a b=true)(hcd:eP c d=true)(M:Sto):∃x y,ixF (.d (.list [.tuple [.int a,.int b],.tuple [.int c,.int d],.tuple [.int 0,.int 1]])) (I r) M=some (T2 x y,M)/\eP x y=true:=by
 have cs:r=0\/r=1\/r=2:=by omega
 rcases cs with rfl|rfl|rfl
 .exact⟨_,_,rfl,hab⟩
 .exact⟨_,_,rfl,hcd⟩
 .exact⟨_,_,rfl,by decide⟩
theorem aGG{i:Int}(n2:2<=n)(i0:0<=i)(i1:i<n)(r0:0<=r)(r1:r<n-1):0<=(i+1+r) % n/\(i+1+r) % n<n/\i≠(i+1+r) % n:=by
 refine⟨J6 _ (by omega),I0 _ (by omega),fun e=>?_⟩;by_cases h:i+1+r<n
 .rw[Int.emod_eq_of_lt (by omega) h]at e;omega
 .have:(i+1+r) % n=i+1+r-n:=by
   rw[<- Int.sub_emod_right];exact Int.emod_eq_of_lt (by omega) (by omega)
  omega
theorem aBk{cap:List (Option Nat)}{f:AF}{c:TF}{M1 M2:Sto}{xs ys:List CD}(it:f γ M=some (xs,M1))(hl:xs.length<=sizeLine)(e:lcF g c ee xs (qN cap γ) M1=some (ys,M2))(hd:ys.length<=sizeLine):aAW cap f g c ee γ M=some (.c M2.length,M2++[.lst ys]):=by
 have h1:mS cap f g c ee γ M=some (ys,M2):=by
  unfold mS;rw[it,A1,A4 hl];exact e
 show(mS cap f g c ee γ M).bind _=_;rw[h1,A1];dsimp only;rw[A4 hd]
theorem aDY{i:Int}(hl:us.length<60)(g4:γ[4]?=some (some (.d (.list (aL us)))))(g7:γ[7]?=some (some (I i)))(g8:γ[8]?=some (some (I j))):FH γ M=some (.c M.length,M++[.lst ((aL (us.filter (nk (min i j) (max i j)))).map .d)]):=by
 unfold FH
 have it:dA (aD 4) γ M=some ((aL us).map .d,M):=by
  unfold dA aD;rw[g4];rfl
 have c1:qN [some 7,some 8,none] γ=[some (I i),some (I j),none]:=by
  show[(γ[7]?).join,(γ[8]?).join,none]=_;rw[g7,g8];rfl
 have fl:(us.filter (nk (min i j) (max i j))).length<=us.length:=E8 ..;have hc:=GL (M:=M) (lo:=min i j) (hi:=max i j) (p:=some (I i)) (q:=some (I j)) (e:=bR (aB (aM jL (aB (aD 0) (aB (aD 1) aI))) (aB (aM jX (aB (aD 0) (aB (aD 1) aI))) aI))) (fun s=>by simp![OC,PV,z2]) us none;exact aBk it (sz (by rw[A9,eB];omega)) (by rw[c1];exact hc) (sz (by rw[A9,eB];omega))
theorem aID{M:Sto}{ns:List Int}{k:CD}{s w:Nat}{n i j a b:Int}{ks:List Tie}{g6:Option CD}{r:List (Option CD)}(kl:ks.length<60):
 XM 4 (AR (uN "list" iG (aD 4) (aB (bR (aB (aM jL (aB (aD 7) (aB (aD 8) aI))) (aB (aM jX (aB (aD 7) (aB (aD 8) aI))) (aB (aD 9) aI)))) aI))) (some (Sc ns)::some k::some (.c s)::some (I n)::some (.c M.length)::some (.c w)::g6::some (I i)::some (I j)::some (T2 a b)::r) (M++[.lst ((aL ks).map .d)]) =
  some (.nx (LGa ns k s n (ks++[⟨min i j,max i j,a,b⟩]) w (g6::some (I i)::some (I j)::some (T2 a b)::r)),M++[.dead]):=by
 have ty:tyB "list" (M++[.lst ((aL ks).map .d)]) (.c M.length)=true:=by
  simp only[tyB,gM];rfl
 have ll:((aL ks).map CD.d).length<sizeLine:=by rw[A9,eB,D5];omega
 have er:(aL ks).map CD.d++[.d (.tuple [.int (min i j),.int (max i j),.tuple [.int a,.int b]])]=(aL (ks++[⟨min i j,max i j,a,b⟩])).map CD.d:=by
  unfold aL;rw[D8,D8];rfl
 have d1:AR (uN "list" iG (aD 4) (aB (bR (aB (aM jL (aB (aD 7) (aB (aD 8) aI))) (aB (aM jX (aB (aD 7) (aB (aD 8) aI))) (aB (aD 9) aI)))) aI)) (some (Sc ns)::some k::some (.c s)::some (I n)::some (.c M.length)::some (.c w)::g6::some (I i)::some (I j)::some (T2 a b)::r) (M++[.lst ((aL ks).map .d)])=some (.nx (some (Sc ns)::some k::some (.c s)::some (I n)::some (.c M.length)::some (.c w)::g6::some (I i)::some (I j)::some (T2 a b)::r),M++[.lst ((aL (ks++[⟨min i j,max i j,a,b⟩])).map .d)]):=by
  simp![uN,ty,OC,PV,z3,iG,gM,if_pos ll,rC,er]
 unfold XM;rw[d1,A1]
 have f1:UC 4 (some (Sc ns)::some k::some (.c s)::some (I n)::some (.c M.length)::some (.c w)::g6::some (I i)::some (I j)::some (T2 a b)::r) (M++[.lst ((aL (ks++[⟨min i j,max i j,a,b⟩])).map .d)])=some (LGa ns k s n (ks++[⟨min i j,max i j,a,b⟩]) w (g6::some (I i)::some (I j)::some (T2 a b)::r),M++[.dead]):=by
  unfold UC;simp only[List.getElem?_cons_succ,List.getElem?_cons_zero,gM,mM,Option.bind_some,rC,List.set_cons_succ,List.set_cons_zero]
 show(UC 4 _ _).bind _=_;rw[f1];rfl
theorem asks{k:CD}{g7 g8 g9 g10 g11 g12:Option CD}{xs:List CD}(hx:∀z∈xs,∃p q x,z=.d (.tuple [p,q,x])/\oks x=true)(hl:us.length<60)(n40:n<=40)(hγ:∃a b c,γ=LGa ns k s n us w [g6,g7,g8,g9,g10,g11,g12,a,b,c])(h:kO M w n vs us)(st:Stm M s):
 ∃a b c M',pX (sJ 3 (bZ (hName 13) (bZ (hName 14) (bZ (hName 15) oR)))) uC xs γ M=some (.nx (LGa ns k s n us w [g6,g7,g8,g9,g10,g11,g12,a,b,c]),M')/\kO M' w n vs us/\Stm M' s:=by
 obtain⟨γ',M',e,⟨a,b,c,rfl⟩,h1,h2⟩:=zD (g:=sJ 3 (bZ (hName 13) (bZ (hName 14) (bZ (hName 15) oR)))) (b:=uC) (fun γ M=>(∃a b c,γ=LGa ns k s n us w [g6,g7,g8,g9,g10,g11,g12,a,b,c])/\kO M w n vs us/\Stm M s) xs (by
  rintro z hz γ M ⟨⟨a,b,c,rfl⟩,h,st⟩;obtain⟨p,q,x,rfl,ho⟩:=hx z hz;obtain⟨L,e⟩:=ask (ns:=ns) (k:=k) (s:=s) (g6:=g6) (g7:=g7) (g8:=g8) (g9:=g9) (g10:=g10) (g11:=g11) (g12:=g12) (p:=p) (q:=q) h hl n40 ho;exact⟨_,M,_,_,rfl,e,⟨_,_,_,rfl⟩,h.app,st.app⟩) γ M ⟨hγ,h,st⟩
 exact⟨a,b,c,M',e,h1,h2⟩
theorem turn{ns:List Int}{k:CD}{g6 g7 g8 g9 g10 g11 g12 g13 g14 g15:Option CD}(h:kO M w n vs us)(st:Stm M s)(sw:s<w)(n2:2<=n)(n9:n<=9)(hl:us.length<50):
 ∃us' w' vs' r' M',xV (LGa ns k s n us w [g6,g7,g8,g9,g10,g11,g12,g13,g14,g15]) M=some (.nx (LGa ns k s n us' w' r'),M')/\r'.length=10/\kO M' w' n vs' us'/\Stm M' s/\s<w'/\us'.length<=us.length+1:=by
 have p200:(2:Int) ^ 200=1606938044258990275541962092341162602522202993782792835301376:=by decide
 obtain⟨i,M1,e1,i0,i1,x1⟩:=dG (m:=n) st (by omega) (by omega);have s1:=x1.stm st;obtain⟨r,M2,e2,r0,r1,x2⟩:=dG (m:=n-1) s1 (by omega) (by omega);have s2:=x2.stm s1;obtain⟨j0,j1,ne⟩:=aGG n2 i0 i1 r0 r1;have mo:mO (i+1+r) n=true:=fG (by omega);generalize hj:(i+1+r) % n=j at j0 j1 ne;obtain⟨a0,b0,M3,e3,w3,x3⟩:=yD s2;have s3:=x3.stm s2;have k3:Kp s M M3:=(x1.kp.trans x2.kp).trans x3.kp;have h3:=h.kp k3 sw;obtain⟨c0,d0,et,wt⟩:=aFX (i:=min i j) (j:=max i j) h3.tok
 have tie:pF "Web" "tie" eU (aD 5) (aB (aD 7) (aB (aD 8) aI)) (LGa ns k s n us w [g6,some (I i),some (I j),g9,g10,g11,g12,g13,g14,g15]) M3=some (.d (.tuple [.int c0,.int d0]),M3):=by
  rw[YJ h3.web rfl rfl rfl (a:=i) (b:=j),NG,MZ];rw[et]
 obtain⟨q,M4,e4,q0,q1,x4⟩:=dG (m:=5) s3 (by decide) (by decide);have s4:=x4.stm s3;have h4:=h3.kp x4.kp sw;have m3:mO q 3=true:=fG (by decide);obtain⟨a,b,e5,hw⟩:=three (a:=a0) (b:=b0) (c:=c0) (d:=d0) (r:=q % 3) (J6 _ (by decide)) (I0 _ (by decide)) w3 wt M4;obtain⟨L5,e6⟩:=aAR h4 (by omega) i0 i1 j0 j1 ne (by omega) hw;have h5:=h4.app (L:=L5);have s5:=s4.app (L:=L5);obtain⟨L6,w',vs',e7,web',pm',pw',lw'⟩:=rG (x:=T2 a b) (a:=a) (b:=b) h5.web h5.tok h5.nd (L4 h5.len (by omega)) i0 i1 j0 j1 ne (by omega) ⟨hw,.inl ⟨_,rfl,rfl⟩⟩;have s6:=s5.app (L:=L6);have sw':s<w':=B7 s5.lt lw';generalize hM6:M4++L5++L6=M6 at e7 web' s6;have e8:=aDY (M:=M6) (us:=us) (γ:=[some (Sc ns),some k,some (.c s),some (I n),some (.d (.list (aL us))),some (.c w'),g6,some (I i),some (I j),some (T2 a b),g10,g11,g12,g13,g14,g15]) (i:=i) (j:=j) (by omega) rfl rfl rfl;have fl:(us.filter (nk (min i j) (max i j))).length<=us.length:=E8 ..;have e9:=aID (M:=M6) (ns:=ns) (k:=k) (s:=s) (w:=w') (n:=n) (i:=i) (j:=j) (a:=a) (b:=b) (ks:=us.filter (nk (min i j) (max i j))) (g6:=g6) (r:=[g10,g11,g12,g13,g14,g15]) (by omega);generalize hus:us.filter (nk (min i j) (max i j))++[(⟨min i j,max i j,a,b⟩:Tie)]=us' at e9;have hn:us'=next us ⟨min i j,max i j,a,b⟩:=hus.symm;have tok:TOk n ⟨min i j,max i j,a,b⟩:=⟨hw,show 0<=min i j by omega,show min i j<max i j by omega,show max i j<n by omega⟩;have ul:us'.length<=us.length+1:=by rw[<- hus,B2];simp only[List.length_cons,List.length_nil];omega
 have h9:kO (M6++[.dead]) w' n vs' us':=⟨web'.up,pw',by rw[hn];exact DT h5.pm pm',by rw[hn];exact GA h.ok tok (by omega)⟩;have s9:=s6.app (L:=[.dead]);obtain⟨p,x,y,M10,e10,ox,oy,s10,k10⟩:=aIE (n:=n) (ns:=ns) s9;have h10:=h9.kp k10 sw'
 obtain⟨g13',g14',g15',M11,e11,h11,s11⟩:=asks (ns:=ns) (k:=k) (s:=s) (w:=w') (n:=n) (vs:=vs') (us:=us') (g6:=g6) (g7:=some (I i)) (g8:=some (I j)) (g9:=some (T2 a b)) (g10:=some (.d p)) (g11:=some (.d x)) (g12:=some (.d y))
  (xs:=[.d (.tuple [p,.int j,x]),.d (.tuple [.int i,p,.tuple [.int a,.int b]]),.d (.tuple [.int i,.int i,x]),.d (.tuple [.int i,.int j,x]),.d (.tuple [.int i,.int j,y])]) (fun z hz=>by
   simp only[List.mem_cons,List.not_mem_nil,or_false]at hz;obtain⟨a1,a2,a3,a4⟩:=IG hw;rcases hz with rfl|rfl|rfl|rfl|rfl
   .exact⟨_,_,_,rfl,ox⟩
   .exact⟨_,_,_,rfl,qY (by omega) (by omega)⟩
   .exact⟨_,_,_,rfl,ox⟩
   .exact⟨_,_,_,rfl,ox⟩
   .exact⟨_,_,_,rfl,oy⟩) (by omega) (by omega) ⟨g13,g14,g15,rfl⟩ h10 s10
 have it:dA (nH (aB (bR (aB (aD 10) (aB (aD 8) (aB (aD 11) aI)))) (aB (bR (aB (aD 7) (aB (aD 10) (aB (aD 9) aI)))) (aB (bR (aB (aD 7) (aB (aD 7) (aB (aD 11) aI)))) (aB (bR (aB (aD 7) (aB (aD 8) (aB (aD 11) aI)))) (aB (bR (aB (aD 7) (aB (aD 8) (aB (aD 12) aI)))) aI)))))) (LGa ns k s n us' w' [g6,some (I i),some (I j),some (T2 a b),some (.d p),some (.d x),some (.d y),g13,g14,g15]) M10=some ([.d (.tuple [p,.int j,x]),.d (.tuple [.int i,p,.tuple [.int a,.int b]]),.d (.tuple [.int i,.int i,x]),.d (.tuple [.int i,.int j,x]),.d (.tuple [.int i,.int j,y])],M10):=by
  simp![dA,bJ,z3,z5]
 refine⟨us',w',vs',[g6,some (I i),some (I j),some (T2 a b),some (.d p),some (.d x),some (.d y),g13',g14',g15'],M11,?_,rfl,h11,s11,sw',ul⟩;have e3':bQ [.c s] M2=some (.d (.tuple [.int a0,.int b0]),M3):=e3;have a1:dW (I i) (I 1) M1=some (I (i+1),M1):=rfl;have a2:dW (I (i+1)) (I r) M2=some (I (i+1+r),M2):=rfl;simp![xV,xK,e1,e2,a1,a2,mo,hj,e3',tie,WM,z3,e4,m3,e5,e6,e7,e8,e9,e10,it,e11]
theorem aBz{n:Nat}(h:x∈kP lo n):∃j:Nat,j<n/\x=I (lo+j):=by
 unfold kP at h;obtain⟨j,hj,rfl⟩:=List.mem_map.mp h;exact⟨j,List.mem_range.mp hj,rfl⟩
theorem ten{r:List (Option CD)}(h:r.length=10):∃a b c d e f g i j k,r=[a,b,c,d,e,f,g,i,j,k]:=by
 match r,h with
 |[a,b,c,d,e,f,g,i,j,k],_=>exact⟨a,b,c,d,e,f,g,i,j,k,rfl⟩
theorem turns{ns:List Int}{k:CD}{s:Nat}{n:Int}(n2:2<=n)(n9:n<=9):∀(m:Nat)(lo:Int)(us vs:List Tie)(w:Nat)(r:List (Option CD))(M:Sto),r.length=10->kO M w n vs us->Stm M s->s<w->us.length+m<50->
 ∃γ' M',pX (hName 6) xV (kP lo m) (LGa ns k s n us w r) M=some (.nx γ',M')/\∃γ'',γ'=some (Sc ns)::γ''/\γ''.length=15
 |0=>fun lo us vs w r M hr h st sw hl=>⟨_,M,rfl,_,rfl,by simp[hr]⟩
 |m+1=>fun lo us vs w r M hr h st sw hl=>by
  obtain⟨a,b,c,d,e,f,g,i,j,q,rfl⟩:=ten hr;obtain⟨us1,w1,vs1,r1,M1,e1,l1,h1,s1,sw1,ul⟩:=turn (ns:=ns) (k:=k) (g6:=some (I lo)) (g7:=b) (g8:=c) (g9:=d) (g10:=e) (g11:=f) (g12:=g) (g13:=i) (g14:=j) (g15:=q) h st sw n2 n9 (by omega);obtain⟨γ',M',e2,hγ⟩:=turns n2 n9 m (lo+1) us1 vs1 w1 r1 M1 l1 h1 s1 sw1 (by omega);refine⟨γ',M',?_,hγ⟩;rw[AY];unfold pX;rw[show hName 6 (I lo) (LGa ns k s n us w [a,b,c,d,e,f,g,i,j,q]) M=some (LGa ns k s n us w [some (I lo),b,c,d,e,f,g,i,j,q],M)from rfl,A1];dsimp only;rw[e1,A1];exact e2
theorem round{k:Int}{r:List (Option CD)}(k0:0<=k)(k1:k<1000)(hr:r.length=14):∃γ' M',xW (some (Sc ns)::some (I k)::r) M=some (.nx γ',M')/\∃γ'',γ'=some (Sc ns)::γ''/\γ''.length=15:=by
 obtain⟨a,b,c,d,r,rfl⟩:∃a b c d r',r=a::b::c::d::r':=by
  match r,hr with
  |a::b::c::d::r',_=>exact⟨a,b,c,d,r',rfl⟩
 have hr:r.length=10:=by simpa using hr
 obtain⟨M1,e1,s1⟩:=WY (ns:=ns) (M:=M) k0 k1;obtain⟨t,M2,e2,t0,t1,x2⟩:=dG (m:=8) s1 (by decide) (by decide);have s2:=x2.stm s1;obtain⟨us,M3,e3,s3,ok,ul⟩:=aEW (n:=2+t) s2 (by omega) (by omega);have ht:BU M3 (2+t) (.d (.list (aL us))) us:=ZR (ON ok.1);obtain⟨vs,pm,pw,e4⟩:=aGd (γ:=some (Sc ns)::some (I k)::some (.c M.length)::some (I (2+t))::some (.d (.list (aL us)))::d::r) (fa:=aB (aD 3) (aB (aD 4) aI)) (by rfl) ht ok.2.1 ok.2.2 (by omega) (by omega);have web:=AB (M:=M3) (L:=[]) (n:=2+t) (us:=us) (vs:=vs);rw[C6]at web;obtain⟨γ',M',e5,hγ⟩:=turns (ns:=ns) (k:=I k) (s:=M.length) (n:=2+t) (by omega) (by omega) 6 0 us vs M3.length r (M3++FI M3.length (2+t) us vs) hr ⟨web,pw,pm.filter big,ok⟩ s3.app s3.lt (by omega);refine⟨γ',M',?_,hγ⟩;have a1:dW (I 2) (I t) M2=some (I (2+t),M2):=rfl;have r6:kY (aB (fC (.int 6)) aI) (LGa ns (I k) M.length (2+t) us M3.length r) (M3++FI M3.length (2+t) us vs)=some (kP 0 6,M3++FI M3.length (2+t) us vs):=rfl;simp![xW,xK,e1,e2,a1,e3,e4,r6,e5]
theorem main(ns:List Int)(hl:ns.length<=63):∃M',F_law [.d (.list (ns.map .int))] []=some (.d (.bool true),M'):=by
 obtain⟨γ',M',e,γ'',rfl,_⟩:=zD (g:=hName 1) (b:=xW) (fun γ M=>∃γ'',γ=some (Sc ns)::γ''/\γ''.length=15) (kP 0 4) (by
  rintro x hx γ M ⟨γ'',rfl,h⟩;obtain⟨j,hj,rfl⟩:=aBz hx
  obtain⟨a,r,rfl⟩:∃a r,γ''=a::r:=by
   match γ'',h with
   |a::r,_=>exact⟨a,r,rfl⟩
  obtain⟨γ1,M1,e1,hγ⟩:=round (ns:=ns) (M:=M) (k:=0+(j:Int)) (r:=r) (by omega) (by omega) (by simpa using h);exact⟨some (Sc ns)::some (I (0+(j:Int)))::r,M,γ1,M1,rfl,e1,hγ⟩) [some (Sc ns),none,none,none,none,none,none,none,none,none,none,none,none,none,none,none] [] ⟨_,rfl,rfl⟩
 refine⟨M',?_⟩;have r4:kY (aB (fC (.int 4)) aI) [some (Sc ns),none,none,none,none,none,none,none,none,none,none,none,none,none,none,none] []=some (kP 0 4,[]):=rfl;simp![F_law,VZ,xK,r4,e]
end Q6
end
end
open PySem PySem.W PyProof.Rows
set_option maxRecDepth 100000 in
set_option maxHeartbeats 0 in
theorem PySem.Challenge.cw_cutstree_k06_changed_holds : PySem.Challenge.rw_cutstree_k06_changed.Holds := by
 refine Q6.k_top ?_
 k_fill
 refine L2.law_walk (l:=PySem.Challenge.rw_cutstree_k06_changed) (F:=Q6.F_law) (k:=12) (p:="_law_script") (by decide +kernel) rfl rfl ⟨fun _=>rfl,by decide,by decide,rfl⟩ (fun w h Y=>PySem.W.kIn_of Y) ?T Q6.main
 case T=>
  intro w mg h KX G;refine Q6.fn_law (K:=_) (mg:=mg) ?TT
  refine' Q6.txt_mk KX G ?v0 ?v1 ?v2 ?v3 ?v4 ?v5 ?v6 ?v7 ?v8 ?v9 ?v10 ?v11 ?v12 ?v13 ?v14 ?v15 ?v16 ?v17 ?v18 ?v19 ?v20 ?v21 ?v22 ?v23 ?v24 ?v25 ?v26 ?v27 ?v28 ?v29 ?v30 ?v31 ?v32 ?v33 ?v34 ?v35 ?v36 ?v37 ?v38 ?v39 ?v40 ?v41 ?v42 ?v43 ?v44 ?v45 ?v46 ?v47 ?v48 ?v49 ?v50 ?v51 ?v52 ?v53 ?v54 ?v55 ?v56 ?v57 ?v58 ?v59 ?v60 ?v61 ?v62 ?v63 ?v64 ?v65 ?v66 ?v67 ?v68 ?v69 ?v70 ?v71 ?v72 ?v73 ?v74 ?v75 ?v76 ?v77 ?v78 ?v79 ?v80 ?v81 ?v82 ?v83 ?v84 ?v85 ?v86 ?v87 ?v88 ?v89 ?v90 ?v91 ?v92 ?v93 ?v94 ?v95 ?v96 ?v97 ?v98 ?v99 ?v100 ?v101 ?v102 ?v103 ?v104 ?v105 ?v106 ?v107 ?v108 ?v109 ?v110 ?v111 ?v112 ?v113 ?v114 ?v115 ?v116 ?v117 ?v118 ?v119 ?v120 ?v121 ?v122 ?v123 ?v124 ?v125 ?v126 ?v127 ?v128 ?v129 ?v130 ?v131 ?v132 ?v133 ?v134
  (case v0|v1|v2|v3|v4|v5|v6|v7|v8|v9|v10|v11|v12|v13|v14|v15|v16|v17|v18|v20|v21|v22|v23|v25|v26|v27|v28|v29|v33|v34|v35|v36|v41|v42|v43|v45|v46|v47|v48|v49|v50|v51|v53|v54|v55|v56|v61|v64|v67|v77|v81|v82|v84|v85|v86|v87|v89|v90|v91|v92|v93|v96|v97|v98|v99|v100=>k_is)
  (case v19|v24|v30|v31|v32|v37|v38|v39|v40|v44|v52|v57|v58|v59|v60|v62|v63|v65|v66|v68|v69|v70|v71|v72|v73|v74|v75|v76|v78|v79|v80|v83|v88|v94|v95|v101=>kernel_rfl)
  (case v102|v103|v104|v105|v106|v107|v108|v109|v110|v111|v112|v113|v114|v115|v116|v117|v118|v119|v120|v121|v122|v123|v124|v125|v126|v127|v128|v129|v130|v131|v132|v133|v134=>exact L2.def_mk KX G (by k_is) (by k_is) (by k_is) (by k_is))