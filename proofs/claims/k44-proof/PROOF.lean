import PyProof.Rows.All
import OpenK.KLine
import OpenK.KWalk
import OpenK.KMore
import OpenK.KOwn
import OpenK.KRaise
import KE.KSortTup
import PyProof.EqAt
import PyProof.EqKinds
import PyProof.TupleCall
import KE.KIsAll
import PyProof.ExcArgsOwn
import PyProof.NsDelKeeps
import KE.KTryMore
import PyProof.InstStoreFacts
import PyProof.ExcInit
import PyProof.ExcClass2
import PyProof.Rows.ListMul
import PyProof.Draws
import PyProof.EnumMake
import PyProof.Rows.EnumRows
import KE.KItemsList
import PyProof.DictCompW
import PyProof.ListRange
import PyProof.ZipIter
import PyProof.AttrMissHeap
import KE.KDictOf
import KE.KUnpack
import PyProof.SetKind
import PyProof.Rows.SetFrom
import KE.KIntText
import KE.KMinKey
import KE.KLam
import PySem.Challenge.RW_cutstree_k44_chart_sides
set_option Elab.async false
section
set_option maxRecDepth 100000
set_option maxHeartbeats 0
namespace Q44
open PySem
noncomputable def qv:Program:={ PySem.Challenge.rw_cutstree_k44_chart_sides.prog with main:={ PySem.Challenge.rw_cutstree_k44_chart_sides.prog.main with body:=(((((PySem.Challenge.rw_cutstree_k44_chart_sides.prog.main.body.eraseIdx 24).eraseIdx 12).eraseIdx 10).eraseIdx 3).eraseIdx 0) } }
end Q44
open PySem PySem.W PyProof.Rows
local macro_rules | `(tactic| o_head $H) => `(tactic| (
 refine holds_open (r:=PySem.Challenge.rw_cutstree_k44_chart_sides.row) (q:=Q44.qv) (loose:=[]) (Xt:=fun s=>xlAt Q44.qv [] s&&recOk (RowW.records (OpenRow.toRowW PySem.Challenge.rw_cutstree_k44_chart_sides.row)) s) (XP:=XL Q44.qv []) (Yf:=Hook.obs $H) (Ya:=Hook.val $H) (YP:=Hook.says $H) (N:=6100) ?hl (Hook.of $H) (Hook.keeps $H) (fun s e=>xl_of s (Bool.and_eq_true_iff.mp e).1) XL.keeps (by rfl) (by rfl) (by rfl) (fun s e=>recFacts_of (Bool.and_eq_true_iff.mp e).2) (by rfl) (by first|assumption|decide +kernel) (by decide +kernel) ⟨rfl,rfl,rfl,rfl,rfl,by decide +kernel⟩ ?hw ?hc
 (case hl=>intro w;kernel_rfl)))
open_top Q44.k_top for PySem.Challenge.rw_cutstree_k44_chart_sides
end
section
set_option linter.all false
set_option maxRecDepth 100000
set_option maxHeartbeats 4000000
noncomputable abbrev Fg:=PySem.W.Frag
noncomputable section
abbrev T0:=List (List Int)
abbrev T1:=PySem.Value->PySem.Shared->Prop
abbrev T2:=List (PySem.Addr×PySem.Obj)
abbrev T3:=List (Int×List Int)
abbrev T5:=List (Option Nat)
abbrev T6:=List PySem.PyData
abbrev T7:=List PySem.Value
abbrev T9:=List Int
abbrev Ta:=List PySem.Expr
abbrev Tb:=List PySem.Stmt
abbrev Td:=List PySem.Addr
abbrev Te:=List PySem.Str
abbrev Tg:=List Nat
abbrev Ti:=Option PySem.Value
abbrev Tj:=Option Nat
abbrev Tk:=Option PySem.Addr
abbrev Tl:=Array PySem.Value
abbrev Tn:=Array Nat
abbrev To:=Option Int
abbrev Tp:=PySem.Str×PySem.NameKind
abbrev Tq:=PySem.Value->PySem.Value->PySem.Sem PySem.Value
abbrev Tt:=Nat->Nat->Bool
abbrev Tu:=PySem.Str->Option PySem.NameKind
abbrev Tv:=List (PySem.Str×PySem.Value)
abbrev Tx:=List
abbrev Tz:=Option
abbrev Ua:=PySem.Value
abbrev Ub:=PySem.PyData
abbrev Uc:=PySem.Shared
abbrev Ud:=PySem.Addr
abbrev Ue:=PySem.Expr
abbrev Uf:=PySem.Program
abbrev Ug:=PySem.Around
noncomputable abbrev Z{α:Type _}(x:α):=some x
noncomputable abbrev Y{α:Type _}:=@none α
abbrev A0:=@List.length_map
abbrev A1:=@PySem.wpAny_bind
abbrev A2:=@Option.bind_some
abbrev A3:=@PySem.Heap.get?_push_of_some
abbrev A4:=@if_pos
abbrev A6:=@List.length_append
abbrev A7:=@Bool.false_ne_true
abbrev A8:=@List.getD_eq_getElem?_getD
abbrev A9:=@List.mem_cons_self
abbrev B0:=@List.mem_cons_of_mem
abbrev B1:=@List.getElem?_eq_getElem
abbrev B2:=@if_neg
abbrev B3:=@List.mem_append_right
abbrev B4:=@Nat.le_refl
abbrev B5:=@PySem.wpAny_pure
abbrev B6:=@List.map_cons
abbrev B7:=@PySem.Heap.lt_size
abbrev B8:=@Bool.and_eq_true
abbrev B9:=@List.map_map
abbrev C4:=@Nat.lt_of_lt_of_le
abbrev C5:=@List.size_toArray
abbrev C6:=@PySem.Heap.get?_push_size
abbrev C7:=@decide_eq_true
abbrev C8:=@Nat.ne_of_lt
abbrev C9:=@congrArg
abbrev D4:=@List.mem_append_left
abbrev D5:=@List.getElem?_set_ne
abbrev D6:=@List.getElem?_map
abbrev D7:=@Option.some.inj
abbrev D8:=@List.append_nil
abbrev D9:=@of_decide_eq_true
abbrev E1:=@Classical.byContradiction
abbrev E2:=@List.getElem?_set_self
abbrev E3:=@Int.toNat_natCast
abbrev E4:=@decide_eq_false
abbrev E5:=@decide_eq_true_eq
abbrev E6:=@List.getElem?_append_left
abbrev E7:=@List.length_singleton
abbrev E8:=@List.length_range
abbrev E9:=@Nat.zero_le
abbrev F0:=@List.append_assoc
abbrev F4:=@Classical.em
abbrev F5:=@List.getElem?_append_right
abbrev F6:=@PySem.PassesOwn.never
abbrev F7:=@List.map_append
abbrev F8:=@PySem.wpAny_mono
abbrev F9:=@List.lookup_cons
abbrev I0:=@PySem.W.mg_none_of
abbrev J0:=@PySem.wpAny_field
abbrev J7:=@PySem.wpAny_newObj_type
abbrev J8:=@PyProof.Rows.callWith_type1
abbrev J9:=@Array.getD_eq_getD_getElem?
abbrev L7:=@List.length_cons
abbrev L8:=@Nat.lt_irrefl
abbrev L9:=@PySem.mem_of_lookup
abbrev O0:=@PySem.boot_len
abbrev O6:=@List.length_filter_le
abbrev O7:=@Nat.le_trans
abbrev O8:=@List.flatMap_cons
abbrev O9:=@PyProof.Rows.slot_tuple_getitem
abbrev S0:=@Bool.eq_iff_iff
abbrev S3:=@List.cons.injEq
abbrev S5:=@PySem.wpAny_holding
abbrev S6:=@PyProof.Rows.boot_tuple
abbrev S7:=@PySem.sizeLine_eq
abbrev S8:=@of_decide_eq_false
abbrev S9:=@List.getElem_mem
abbrev U0:=@List.pairwise_singleton
abbrev U1:=@PySem.wpAny_callSpecial?_slot
abbrev U2:=@List.length_set
abbrev U3:=@Ne.symm
abbrev U4:=@PySem.SeqAt.canLay_of_shaped
abbrev U5:=@PySem.Heap.get?_update_ne
abbrev U6:=@List.Nodup.length_le_of_subset
abbrev U7:=@PySem.wpAny_call_entry
abbrev U8:=@List.reverse_cons
abbrev U9:=@List.filter_cons_of_neg
abbrev Y0:=@List.filter_cons_of_pos
abbrev Y1:=@List.length_reverse
abbrev Y2:=@PySem.wpAny_truthy_bool
abbrev Y3:=@List.length_take
abbrev Y4:=@List.length_replicate
abbrev Y5:=@PySem.Heap.get?_update_other
abbrev Y6:=@PySem.wpAny_standAt
abbrev Y7:=@List.drop_eq_getElem_cons
abbrev Y8:=@PySem.wpAny_Call_Name_kw
abbrev Y9:=@List.mem_of_getElem?
abbrev Z0:=@List.filterMap_cons
abbrev Z1:=@PySem.wpAny_loadPart'
abbrev Z2:=@List.map_congr_left
abbrev Z3:=@List.all_eq_true
abbrev Z4:=@beq_iff_eq
abbrev Z5:=@Int.emod_lt_of_pos
abbrev Z6:=@PyProof.Rows.get?_update_seq
abbrev Z7:=@PySem.wpAny_seqItems
abbrev Z8:=@Int.emod_nonneg
abbrev Z9:=@Array.getElem?_toList
abbrev A0a:=@List.getElem?_eq_none
abbrev A0b:=@Bool.not_eq_true'
abbrev A0c:=@Classical.not_not
abbrev A0d:=@PySem.wpAny_pyIter_tuple
abbrev A0e:=@PySem.Obj.data_mapFields
abbrev A0f:=@PySem.wpAny_setField_rec
abbrev A0g:=@List.length_drop
abbrev A0h:=@Nat.sub_self
abbrev A0i:=@List.getElem?_range
abbrev A0j:=@beq_eq_false_iff_ne
abbrev A0k:=@PySem.Heap.size_push
abbrev A0l:=@PySem.F.slot_tuple_iterator_next
abbrev A0m:=@List.Pairwise.imp_of_mem
abbrev A0n:=@List.sum_cons
abbrev A0o:=@List.map_take
abbrev A0p:=@List.filter_nil
abbrev A0q:=@List.length_nil
abbrev A0r:=@List.zip_cons_cons
abbrev A0s:=@PySem.F.plainAttrs_list
abbrev A0t:=@Nat.ne_of_gt
abbrev A0u:=@List.ext_getElem?
abbrev A0v:=@PyProof.Rows.boot_sorted
abbrev A0w:=@List.getElem?_toArray
abbrev A0x:=@PySem.F.slot_zip_next
abbrev A0y:=@Nat.lt_succ_self
abbrev A0z:=@List.drop_length
abbrev A1a:=@beq_self_eq_true
abbrev A1b:=@List.all_cons
abbrev A1c:=@PySem.codeAny_mono
abbrev A1d:=@Nat.le_succ
abbrev A1e:=@List.range_eq_range'
abbrev A1f:=@List.mem_of_mem_take
abbrev A1g:=@PyProof.Rows.ints_map
abbrev A1h:=@Array.length_toList
abbrev A1i:=@PySem.Heap.get?_update_self
abbrev A1j:=@Nat.le_of_lt
abbrev A1k:=@Nat.zero_add
abbrev A1l:=@PySem.PyData.eqvAll.eq_def
abbrev A1m:=@Int.natCast_nonneg
abbrev A1n:=@List.perm_ext_iff_of_nodup
abbrev A1o:=@PySem.wpAny_passesOwn
abbrev A1p:=@PySem.wpAny_typeOf
abbrev A1q:=@PyProof.Rows.boot_list
abbrev A1r:=@PySem.wpAny_setField
namespace L2
variable{H:Hp}{s:Uc}{σ:St}{K:Fg}{A:Ug}{pos:Pos}
open PySem PySem.Spec PyProof.Rows
noncomputable abbrev Key:=Sum Int Str
noncomputable def ZW:Key->Ua->Bool
 |.inl k,v=>Value.isInt k v
 |.inr x,v=>Value.isStrOf x v
noncomputable def aJm(w:World):Key->Int
 |.inl k=>hashInt k
 |.inr x=>hashStr w x
def dN:∀{k:Key}{v:Ua},ZW k v=true->(∃i t,k=Sum.inl i/\v=Value.int i t)\/(∃x t,k=Sum.inr x/\v=Value.str x t)
 |.inl i,v=>fun h=>by
  obtain⟨t,e⟩:=Value.isInt_shape (k:=i) (v:=v) h;exact .inl ⟨i,t,rfl,e⟩
 |.inr x,v=>fun h=>by
  obtain⟨t,e⟩:=Value.isStrOf_shape (x:=x) (v:=v) h;exact .inr ⟨x,t,rfl,e⟩
def aHb(a b:Int):decide ((Sum.inl a:Key)=Sum.inl b)=(a==b):=by
 by_cases e:a=b
 .subst e;simp
 .have h:¬(Sum.inl a:Key)=Sum.inl b:=fun q=>e (Sum.inl.inj q);rw[E4 h];exact(beq_eq_false_iff_ne.mpr e).symm
def aHi(a b:Str):decide ((Sum.inr a:Key)=Sum.inr b)=decide (a=b):=by
 by_cases e:a=b
 .subst e;simp
 .have h:¬(Sum.inr a:Key)=Sum.inr b:=fun q=>e (Sum.inr.inj q);rw[E4 h,E4 e]
def aFo(a:Int)(b:Str):decide ((Sum.inl a:Key)=Sum.inr b)=false:=E4 (fun q=>nomatch q)
def aFy(a:Str)(b:Int):decide ((Sum.inr a:Key)=Sum.inl b)=false:=E4 (fun q=>nomatch q)
def uS(prog:Uf)(w:World):PySem.KeyKind prog w Key where
 is:=ZW
 hash:=aJm w
 inj:=fun v a b ha hb=>by
  rcases dN ha with⟨i,t,rfl,rfl⟩|⟨x,t,rfl,rfl⟩
  .rcases dN hb with⟨j,u,rfl,e⟩|⟨y,u,rfl,e⟩
   .injection e with e1 _;rw[e1]
   .exact nomatch e
  .rcases dN hb with⟨j,u,rfl,e⟩|⟨y,u,rfl,e⟩
   .exact nomatch e
   .injection e with e1 _;rw[e1]
 byValue:=fun k v h=>by
  rcases dN h with⟨i,t,rfl,rfl⟩|⟨x,t,rfl,rfl⟩<;>rfl
 pyHash:=fun hv h=>by
  rcases dN hv with⟨i,t,rfl,rfl⟩|⟨x,t,rfl,rfl⟩
  .exact wpAny_pyHash_int h
  .exact wpAny_pyHash_str h
 eqBool:=fun hu hv h=>by
  rcases dN hu with⟨i,t,rfl,rfl⟩|⟨x,t,rfl,rfl⟩
  .rcases dN hv with⟨j,u,rfl,rfl⟩|⟨y,u,rfl,rfl⟩
   .rw[aHb]at h;exact wpAny_eqBool_int h
   .rw[aFo]at h;exact SeqAt.EqAt.int_str i t y u _ _ _ _ h
  .rcases dN hv with⟨j,u,rfl,rfl⟩|⟨y,u,rfl,rfl⟩
   .rw[aFy]at h;exact SeqAt.EqAt.str_int x t j u _ _ _ _ h
   .rw[aHi]at h;exact wpAny_eqBool_str h
 «strs»:=fun k x t v h=>by
  rcases dN h with⟨i,u,rfl,e⟩|⟨y,u,rfl,e⟩
  .exact nomatch e
  .injection e with e1 _
   subst e1;cases v<;>rfl
inductive V where
 |non|bl (b:Bool)|int (i:Int)|str (x:Str)|byt (b:Array UInt8)|flt (b:UInt64)|ref (a:Ud)|ty (n:String)
 deriving DecidableEq
abbrev Tf:=Tx V
def RelV:V->Ua->Prop
 |.non,u=>u=Value.none
 |.bl b,u=>u=Value.bool b
 |.int i,u=>∃t,u=Value.int i t
 |.str x,u=>∃t,u=Value.str x t
 |.byt b,u=>∃t,u=Value.bytes b t
 |.flt b,u=>∃t,u=Value.float b t
 |.ref a,u=>u=Value.ref a
 |.ty n,u=>u=Value.type n
abbrev bH:Tf->T7->Prop:=Paired RelV
def bH.length(r:bH xs us):xs.length=us.length:=Paired.length r
def bH.get:∀{xs:Tf}{us:T7}{i:Nat}{x:V},bH xs us->xs[i]?=Z x->∃u,us[i]?=Z u/\RelV x u
 |_,_,_,_,.nil=>fun e=>by simp at e
 |_,_,0,_,.cons r _=>fun e=>by simp at e;subst e;exact⟨_,rfl,r⟩
 |_,_,i+1,x,.cons _ t=>fun e=>by
  obtain⟨u,a,b⟩:=bH.get (i:=i) (x:=x) t (by simpa using e);exact⟨u,by simpa using a,b⟩
def bH.set(r:RelV x u):∀{xs:Tf}{us:T7}(i:Nat),bH xs us->bH (xs.set i x) (us.set i u)
 |_,_,_,.nil=>.nil
 |_,_,0,.cons _ t=>.cons r t
 |_,_,i+1,.cons q t=>.cons q (bH.set r i t)
def bH.append:∀{xs ys:Tf}{us ws:T7},bH xs us->bH ys ws->bH (xs++ys) (us++ws)
 |_,_,_,_,.nil=>fun s=>s
 |_,_,_,_,.cons r t=>fun s=>.cons r (bH.append t s)
def bH.take:∀{xs:Tf}{us:T7}(n:Nat),bH xs us->bH (xs.take n) (us.take n)
 |_,_,0,_=>.nil
 |_,_,_+1,.nil=>.nil
 |_,_,n+1,.cons r t=>.cons r (bH.take n t)
def bH.drop:∀{xs:Tf}{us:T7}(n:Nat),bH xs us->bH (xs.drop n) (us.drop n)
 |_,_,0,r=>r
 |_,_,_+1,.nil=>.nil
 |_,_,n+1,.cons _ t=>bH.drop n t
def aIY:Tz V->Ti->Prop
 |some v,some u=>RelV v u
 |none,none=>True
 |_,_=>False
def KV{a:Type}:Tx (a×V)->Tx (a×Ua)->Prop:=Paired fun(p:a×V)(q:a×Ua)=>p.1=q.1/\RelV p.2 q.2
noncomputable def kV:Key->V
 |.inl i=>.int i
 |.inr x=>.str x
inductive HO where
 |lst (xs:Tf)
 |tup (xs:Tf)
 |dK (kvs:Tx (Key×V))|dT (kvs:Tx (Tx Key×V))
 |set (S:Int->Bool) (n:Nat)
 |ins (C dx:Ud) (fs:Tx (Str×V))
 |own (x:Ud)
 |xd (fs:Tx (Str×V))
 |met (f x:Ud)
 |rng (lo hi:Int)
 |frz (o:Obj) (u:HO)
 |tbl (ps:Tl)
 |ext (φ:Heap->Prop)
noncomputable abbrev Hp:=Ud->Tz HO
def upd(H:Hp)(a:Ud)(o:HO):Hp:=fun b=>if b=a then Z o else H b
def bA:upd H a o a=Z o:=by unfold upd;rw[A4 rfl]
def aU{a b:Ud}(h:b≠a):upd H a o b=H b:=by unfold upd;rw[B2 h]
def aW{o:HO}(h:H a=Z o)(h':H b=Y):a≠b:=by
 intro e;subst e;rw[h]at h';cases h'
section
variable(P:Uf)(w:World)
def gM(H:Hp)(h:Heap)(a:Ud):HO->Prop
 |.lst xs=>xs.length<=sizeLine/\∃(b:T7)(n:Nat),bH xs b/\h.get? a=Z { cls:=.type "list",data:=.seq b.toArray n }
 |.tup xs=>xs.length<=sizeLine/\∃b:T7,bH xs b/\IsTup h a b.toArray
 |.dK kvs=>kvs.length<=sizeLine/\(a==sysModules)=false/\∃vs,KV kvs vs/\h.DictOf (uS P w) a vs
 |.dT kvs=>kvs.length<=sizeLine/\(a==sysModules)=false/\∃xs:Tx (Tx Key×Ud×Ua),
  Paired (fun(p:Tx Key×V)(q:Tx Key×Ud×Ua)=>p.1=q.1/\H q.2.1=Z (.tup (p.1.map kV))/\RelV p.2 q.2.2) kvs xs /\
  ∃o es ep,h.get? a=Z o/\o.ExactDict/\o.data=.dict es ep/\es.toList=xs.map (entryOfKey (tupleKind (uS P w)))/\(xs.map (·.1)).Nodup
 |.set S n=>h.SetOf (intKind P w) a S n
 |.ins C dx fs=>H dx=Z (.own a)/\fs.length<=1000/\dx≠a/\h.get? a=Z (W.instObj C dx) /\
  ∃c,h.Ns1 dx c/\(∀f,aIY (fs.lookup f) (c f))/\PySem.Within c (fs.map (·.1))
 |.own _=>∃o,h.get? a=Z o
 |.xd fs=>∃c,h.Ns1 a c/\∀f,aIY (fs.lookup f) (c f)
 |.rng lo hi=>∃t u v,h.get? a=Z { cls:=.type "range",data:=.fields #[.int lo t,.int hi u,.int 1 v] }
 |.frz o u=>h.get? a=Z o/\gM H h a u
 |.tbl ps=>h.get? a=Z { cls:=.none,data:=.fields ps }
 |.met f x=>h.get? a=Z (W.methodObj (.ref f) (.ref x))
 |.ext d=>d h/\(∃o,h.get? a=Z o)/\∀e g:Heap,d e->(∀o,e.get? a=Z o->g.get? a=Z o)->d g
def HOk(H:Hp)(h:Heap):Prop:=∀a o,H a=Z o->gM P w H h a o
end
section
variable{P:Uf}{w:World}{H H':Hp}{h h':Heap}{a:Ud}{o:HO}
def gM.lt(x:gM P w H h a o):a<h.objs.size:=by
 cases o with
 |lst xs=>obtain⟨_,_,_,_,e⟩:=x;exact B7 e
 |tup xs=>obtain⟨_,_,_,p⟩:=x;exact p.lt
 |dK kvs=>obtain⟨_,_,_,_,o,_,_,e,_⟩:=x;exact B7 e
 |dT kvs=>obtain⟨_,_,_,_,o,_,_,e,_⟩:=x;exact B7 e
 |set S n=>obtain⟨o,_,_,_,e,_⟩:=x;exact B7 e
 |ins C dx fs=>obtain⟨_,_,_,e,_⟩:=x;exact B7 e
 |own y=>obtain⟨_,e⟩:=x;exact B7 e
 |xd fs=>obtain⟨_,⟨_,_,_,e,_⟩,_⟩:=x;exact B7 e
 |rng lo hi=>obtain⟨_,_,_,e⟩:=x;exact B7 e
 |frz ob u=>obtain⟨e,_⟩:=x;exact B7 e
 |tbl ps=>exact B7 (show h.get? a=Z _ from x)
 |met f y=>exact B7 (show h.get? a=Z _ from x)
 |ext b=>obtain⟨_,⟨_,e⟩,_⟩:=x;exact B7 e
def Paired.mapP{c d:Type}{F G:c->d->Prop}:∀{l₁:Tx c}{l₂:Tx d},Paired F l₁ l₂->(∀a b,F a b->G a b)->Paired G l₁ l₂
 |_,_,.nil=>fun _=>.nil
 |_,_,.cons r t=>fun f=>.cons (f _ _ r) (Paired.mapP t f)
def gM.stay(x:gM P w H h a o)(k:∀b u,(b=a\/H b=Z (.own a))->h.get? b=Z u->h'.get? b=Z u)
 (j:∀b,H b=Z (.own a)->H' b=Z (.own a)) (ht:∀b xs,H b=Z (.tup xs)->H' b=Z (.tup xs)):gM P w H' h' a o:=by
 induction o with
 |lst xs=>obtain⟨z,g,n,r,e⟩:=x;exact⟨z,g,n,r,k _ _ (.inl rfl) e⟩
 |tup xs=>obtain⟨z,g,r,ob,e,c⟩:=x;exact⟨z,g,r,ob,k _ _ (.inl rfl) e,c⟩
 |dK kvs=>obtain⟨z,y,vs,r,ob,es,ep,e,c⟩:=x;exact⟨z,y,vs,r,ob,es,ep,k _ _ (.inl rfl) e,c⟩
 |dT kvs=>
  obtain⟨z,y,xs,r,ob,es,ep,e,c⟩:=x;exact⟨z,y,xs,Paired.mapP r fun p q z=>⟨z.1,ht _ _ z.2.1,z.2.2⟩,ob,es,ep,k _ _ (.inl rfl) e,c⟩
 |set S n=>obtain⟨ob,es,ep,t,e,c⟩:=x;exact⟨ob,es,ep,t,k _ _ (.inl rfl) e,c⟩
 |ins C dx fs=>
  obtain⟨d,z,ne,e,i,⟨od,es,ep,l,c⟩,r⟩:=x;exact⟨j _ d,z,ne,k _ _ (.inl rfl) e,i,⟨od,es,ep,k _ _ (.inr d) l,c⟩,r⟩
 |own y=>obtain⟨ob,e⟩:=x;exact⟨ob,k _ _ (.inl rfl) e⟩
 |xd fs=>obtain⟨i,⟨od,es,ep,e,c⟩,r⟩:=x;exact⟨i,⟨od,es,ep,k _ _ (.inl rfl) e,c⟩,r⟩
 |rng lo hi=>obtain⟨t,u,v,e⟩:=x;exact⟨t,u,v,k _ _ (.inl rfl) e⟩
 |frz ob u ih=>obtain⟨e,q⟩:=x;exact⟨k _ _ (.inl rfl) e,ih q⟩
 |tbl ps=>
  have e:h.get? a=Z { cls:=.none,data:=.fields ps }:=x;show h'.get? a=Z { cls:=.none,data:=.fields ps };exact k a _ (.inl rfl) e
 |met f y=>
  have e:h.get? a=Z (W.methodObj (.ref f) (.ref y)):=x;show h'.get? a=Z (W.methodObj (.ref f) (.ref y));exact k a _ (.inl rfl) e
 |ext m=>obtain⟨p,⟨o,e⟩,st⟩:=x;exact⟨st _ _ p fun o q=>k _ _ (.inl rfl) q,⟨o,k _ _ (.inl rfl) e⟩,st⟩
def HOk.lt(x:HOk P w H h)(e:H a=Z o):a<h.objs.size:=(x a o e).lt
def HOk.fresh(x:HOk P w H h)(e:h.objs.size<=a):H a=Y:=by
 cases q:H a with
 |none=>rfl
 |some u=>exact absurd (C4 (x.lt q) e) (L8 _)
def HOk.kept(x:HOk P w H h)(k:∀b u,h.get? b=Z u->h'.get? b=Z u):HOk P w H h':=fun a o e=>
 (x a o e).stay (fun b u _ q=>k b u q) (fun _ q=>q) fun _ _ q=>q
def HOk.laid(x:HOk P w H h)(k:∀b u,h.get? b=Z u->h'.get? b=Z u)(f:h.objs.size<=a)(new:gM P w (upd H a o) h' a o):HOk P w (upd H a o) h':=fun b u e=>by
 have hn:=x.fresh f;by_cases d:b=a
 .subst d;rw[bA]at e;cases e;exact new
 .rw[aU d]at e;exact(x b u e).stay (fun c v _ q=>k c v q) (fun c q=>by rw[aU (aW q hn)];exact q) fun c xs q=>by rw[aU (aW q hn)];exact q
end
def Rd(H:Hp)(a:Ud)(u:HO):Prop:=H a=Z u\/∃o,H a=Z (.frz o u)
def Rd.ok{P:Uf}(r:Rd H a u)(x:HOk P w H h):gM P w H h a u:=by
 rcases r with r|⟨o,r⟩
 .exact x a u r
 .obtain⟨_,q⟩:=x a _ r;exact q
def Mut:Tz HO->Prop
 |some (.lst _)=>True
 |some (.dK _)=>True
 |some (.dT _)=>True
 |some (.set _ _)=>True
 |some (.ins _ _ _)=>True
 |some (.ext _)=>True
 |_=>False
section
variable{P:Uf}{w:World}{H:Hp}{h h':Heap}{x e:Ud}{o':HO}
def HOk.write(ok:HOk P w H h)(g:Mut (H x))(l:e=x\/H e=Z (.own x))(k:∀b u,b≠e->h.get? b=Z u->h'.get? b=Z u)(j:∃u,h'.get? e=Z u)
 (new:gM P w (upd H x o') h' x o'):HOk P w (upd H x o') h':=fun b u q=>by
 have d:∀c y,H c=Z (.own y)->c≠x:=fun c y r z=>by subst z;rw[r]at g;exact g
 have f:∀c xs,H c=Z (.tup xs)->c≠x:=fun c xs r z=>by subst z;rw[r]at g;exact g
 by_cases i:b=x
 .subst i;rw[bA]at q;cases q;exact new
 .rw[aU i]at q;by_cases a:b=e
  .have m:H b=Z (.own x):=by
    rcases l with z|z
    .exact absurd (a.trans z) i
    .rw[a];exact z
   rw[q]at m;cases m;obtain⟨v,n⟩:=j;exact⟨v,by rw[a];exact n⟩
  .refine(ok b u q).stay (fun c v hc r=>k c v ?_ r) (fun c r=>by rw[aU (d c b r)];exact r) fun c xs r=>by rw[aU (f c xs r)];exact r
   rcases hc with rfl|hc
   .exact a
   .rintro rfl;rcases l with z|z
    .exact d c b hc z
    .rw[hc]at z;cases z;exact i rfl
end
structure Un(fs ex:Td)(H H':Hp)(h h':Heap):Prop where
 keep:∀b o,h.get? b=Z o->H b=Y->b∉fs->b∉ex->h'.get? b=Z o
 slot:∀b o,h.get? b=Z o->H b=Y->b∈fs->b∉ex->∃sl,h'.get? b=Z { o with slots:=sl }
 free:∀b o,h.get? b=Z o->H b=Y->b∉ex->H' b=Y
 there:∀b o,h.get? b=Z o->b∉ex->∃o',h'.get? b=Z o'
 tups:∀b xs,H b=Z (.tup xs)->H' b=Z (.tup xs)
 frzs:∀b o u,H b=Z (.frz o u)->H' b=Z (.frz o u)
 tbls:∀b ps,H b=Z (.tbl ps)->∃more,H' b=Z (.tbl (ps++more))
section
variable{fs fs' ex ex':Td}{H H1 H2:Hp}{h h1 h2 h':Heap}{a x e:Ud}{o:HO}
def Un.any(u:Un fs ex H H1 h h1){b:Ud}{ob:Obj}(q:h.get? b=Z ob)(n:H b=Y)(c:b∉ex):∃sl,h1.get? b=Z { ob with slots:=sl }:=by
 by_cases d:b∈fs
 .exact u.slot b ob q n d c
 .exact⟨ob.slots,u.keep b ob q n d c⟩
def Un.kept(k:∀b u,h.get? b=Z u->h'.get? b=Z u):Un fs ex H H h h':=
 ⟨fun b ob q _ _ _=>k b ob q,fun b ob q _ _ _=>⟨ob.slots,k b ob q⟩,fun _ _ _ n _=>n,fun b ob q _=>⟨ob,k b ob q⟩,fun _ _ q=>q,fun _ _ _ q=>q,fun _ ps q=>⟨#[],by rw[q];simp⟩⟩
def Un.refl:Un fs ex H H h h:=Un.kept fun _ _ q=>q
def Un.laid(k:∀b u,h.get? b=Z u->h'.get? b=Z u)(hp:h.objs.size<=a)(hn:H a=Y):Un fs ex H (upd H a o) h h' where
 keep:=fun b u q _ _ _=>k b u q
 slot:=fun b u q _ _ _=>⟨u.slots,k b u q⟩
 free:=fun b u q n _=>by rw[aU (C8 (C4 (B7 q) hp))];exact n
 there:=fun b u q _=>⟨u,k b u q⟩
 tups:=fun b xs q=>by rw[aU (aW q hn)];exact q
 frzs:=fun b u xs q=>by rw[aU (aW q hn)];exact q
 tbls:=fun b ps q=>⟨#[],by rw[aU (aW q hn),q];simp⟩
def Un.write(d:Mut (H x))(j:e=x\/H e=Z (.own x))(k:∀b u,b≠e->h.get? b=Z u->h'.get? b=Z u)(f:∃u,h'.get? e=Z u):Un fs ex H (upd H x o) h h':=by
 have g:∀b,H b=Y->b≠x:=fun b n z=>by subst z;rw[n]at d;exact d
 have i:∀b,H b=Y->b≠e:=fun b n z=>by
  subst z;rcases j with r|r
  .exact g b n r
  .rw[n]at r;cases r
 have hm:∀b u,H b=Z u->¬Mut (Z u)->b≠x:=fun b u q nm z=>by subst z;rw[q]at d;exact nm d
 refine⟨fun b u q n _ _=>k b u (i b n) q,fun b u q n _ _=>⟨u.slots,k b u (i b n) q⟩,fun b u q n _=>by rw[aU (g b n)];exact n,fun b u q _=>?_,
  fun b xs q=>by rw[aU (hm b _ q fun z=>z)];exact q,fun b u xs q=>by rw[aU (hm b _ q fun z=>z)];exact q,fun b ps q=>⟨#[],by rw[aU (hm b _ q fun z=>z),q];simp⟩⟩
 by_cases c:b=e
 .subst c;exact f
 .exact⟨u,k b u c q⟩
end
noncomputable def trk(h:Heap)(H:Hp):Td:=(List.range h.objs.size).filter fun a=>(H a).isSome
def uR(h:Heap)(H:Hp):Heap:=W.hideAll h (trk h H)
def CF(h:Heap)(H:Hp):(uR h H).objs.size=h.objs.size:=W.hideAll_size _ _
def JC{h:Heap}{b:Ud}{o:Obj}(e:h.get? b=Z o)(n:H b=Y):(uR h H).get? b=Z o:=
 W.hideAll_get _ e fun hm=>by
  have q:(H b).isSome=true:=(List.mem_filter.mp hm).2;rw[n]at q;simp at q
def RK{b:Ud}{o:Obj}(e:(uR h H).get? b=Z o):h.get? b=Z o/\H b=Y:=by
 have a:h.get? b=Z o:=W.of_hideAll (trk h H) e;refine⟨a,?_⟩;cases q:H b with
 |none=>rfl
 |some x=>
  have hm:b∈trk h H:=List.mem_filter.mpr ⟨List.mem_range.mpr (B7 a),by simp[q]⟩;have z:(uR h H).get? b=Y:=W.hideAll_none (trk h H) hm;rw[z]at e;cases e
def jK(g h:Heap)(L:Ud):T2:=(List.range h.objs.size).filterMap fun a=>if a=L\/(g.get? a).isSome=true then Y else(h.get? a).map fun o=>(a,o)
def qE{g h:Heap}{L a:Ud}{o:Obj}(c:a≠L)(d:g.get? a=Y)(b:h.get? a=Z o):(a,o)∈jK g h L:=
 List.mem_filterMap.mpr ⟨a,List.mem_range.mpr (B7 b),by simp[c,d,b]⟩
def zI{p:Ud×Obj}(a:p∈jK g h L):p.1≠L/\g.get? p.1=Y/\h.get? p.1=Z p.2:=by
 obtain⟨b,_,e⟩:=List.mem_filterMap.mp a;split at e
 .cases e
 .rename_i hn;cases q:h.get? b with
  |none=>rw[q]at e;simp at e
  |some u=>
   rw[q]at e;simp only[Option.map_some,Option.some.injEq]at e;subst e;refine⟨fun z=>hn (.inl z),?_,q⟩;show g.get? b=Y;cases r:g.get? b with
   |none=>rfl
   |some v=>exact(hn (.inr (by simp[r]))).elim
def rest(g h:Heap)(L d:Ud):T2:=(jK g h L).filter fun p=>decide (p.1≠d)
def JO:News g L h (jK g h L):=fun p d=>let⟨a,b,c⟩:=zI d;⟨c,a,b⟩
structure Mod(K:Fg)(mg:Str->Ti)(base:Heap):Prop where
 kin:K.In base
 glob:base.Ns mainGlobals mg
 blt:∃mb,base.Ns builtinsNs mb/\∀x:Str,x≠"__name__"->mb x=bootBuiltins x
 nolimit:base.NoLimit
 sysm:∃o es ep,base.get? sysModules=Z o/\o.data=.dict es ep
 bmn:∃bm ob,mg "__builtins__"=Z (.ref bm)/\bm≠builtinsNs/\base.get? bm=Z ob/\ob.cls=.type "module"/\ob.dict=Z builtinsNs/\ob.data=.plain
structure Cx where
 prog:Uf
 w:World
 K:Fg
 mg:Str->Ti
 base:Heap
 A:Ug
 N:Te
 s₀:Uc
 H₀:Hp
 env:Env
 outer:Tx Env
 stack:Tx Env
 ex:Td
 fn:Str->Bool
 calm:Bool
 pn:T2
 xe:T1
noncomputable def frs(l:Tx Env):Td:=l.filterMap (·.frame)
abbrev Cx.fs(X:Cx):List Addr:=frs X.outer
def Vis(sc:Scope)(x:Str):Prop:=sc.names.lookup x=Z .local\/sc.names.lookup x=Z .cell\/sc.names.lookup x=Z .free
def Loc(sc:Scope)(x:Str):Prop:=sc.names.lookup x=Z .local\/sc.names.lookup x=Z .cell
def Look(env:Env)(h:Heap)(m:Str->Ti)(x:Str)(u:Ua):Prop:=
 (env.kindOf x=Z .local/\m x=Z u)\/((env.kindOf x=Z .cell\/env.kindOf x=Z .free)/\∃c,env.cells.lookup x=Z c/\h.IsCell c (Z u))
structure Cx.Ok(X:Cx):Prop where
 mod:Mod X.K X.mg X.base
 kind:X.env.scope.kind=.function
 glob:X.env.globals=mainGlobals
 blt:X.env.builtins=builtinsNs
 above:X.s₀.heap.objs.size<=X.env.locals
 inj:∀x y c,X.env.cells.lookup x=Z c->X.env.cells.lookup y=Z c->x=y
 has:∀x,(X.env.kindOf x=Z .cell\/X.env.kindOf x=Z .free)->∃c,X.env.cells.lookup x=Z c
 cab:∀x c,X.fn x=true->X.env.cells.lookup x=Z c->X.s₀.heap.objs.size<=c
 hd:X.calm=true->X.A.handled=Y
 frames:X.A.frames=Z X.stack
 stk:X.stack=X.outer\/(X.stack=X.env::X.outer/\X.env.frame=Z X.env.locals)
 exf:∀b∈X.ex,b≠X.env.locals/\∀x c,X.env.cells.lookup x=Z c->c≠b
 bs:∀b o,X.base.get? b=Z o->X.s₀.heap.get? b=Z o/\X.H₀ b=Y
 bsz:X.base.objs.size<=X.s₀.heap.objs.size
 noex:∀b o,X.base.get? b=Z o->b∉X.ex
 exfs:∀b∈X.ex,b∉X.fs
 funs:X.s₀.heap.FunFrames X.base X.outer
 frf:∀b∈X.fs,X.H₀ b=Y
structure Inv(X:Cx)(pins:T2)(σ:Tx (Tz V))(H:Hp)(s:Uc):Prop where
 ok:X.Ok
 os:s.os=X.s₀.os
 bare:AllBare s.gens
 base:Un X.fs X.ex X.H₀ H X.s₀.heap s.heap
 loc:∃m,s.heap.Ns X.env.locals m/\∀(i:Nat)(x:Str)(v:V),X.N[i]?=Z x->σ[i]?=Z (Z v)->Vis X.env.scope x->∃u,RelV v u/\Look X.env s.heap m x u
 cell:∀x c,X.env.cells.lookup x=Z c->∃v,s.heap.IsCell c v
 free:H X.env.locals=Y
 freeC:∀x c,X.env.cells.lookup x=Z c->H c=Y
 pin:∀p∈X.pn++pins,s.heap.get? p.1=Z p.2/\H p.1=Y/\p.1≠X.env.locals/\p.1∉X.fs/\∀v,p.2.data≠.cell v
 hok:HOk X.prog X.w H s.heap
 len:σ.length=X.N.length
section
variable{X:Cx}{pins:T2}{σ:Tx (Tz V)}{H H':Hp}{s:Uc}{h':Heap}
def Cx.Ok.nofr(ok:X.Ok){b:Ud}{o:Obj}(e:X.base.get? b=Z o):b∉X.fs:=fun a=>by
 have:=(ok.funs.mem a).1;rw[e]at this;cases this
def Inv.bs(I:Inv X pins σ H s):∀b o,X.base.get? b=Z o->s.heap.get? b=Z o/\H b=Y:=fun b o e=>
 ⟨I.base.keep b o (I.ok.bs b o e).1 (I.ok.bs b o e).2 (I.ok.nofr e) (I.ok.noex b o e),I.base.free b o (I.ok.bs b o e).1 (I.ok.bs b o e).2 (I.ok.noex b o e)⟩
def Inv.bk(I:Inv X pins σ H s):∀b o,X.base.get? b=Z o->s.heap.get? b=Z o:=fun b o e=>(I.bs b o e).1
def Inv.mod(I:Inv X pins σ H s):Mod X.K X.mg X.base:=I.ok.mod
def Inv.kIn(I:Inv X pins σ H s):X.K.In s.heap:=I.ok.mod.kin.keeps I.bk
def Inv.fr(I:Inv X pins σ H s):∃m,Fr X.base X.env.locals s.heap m:=
 let⟨m,hn,_⟩:=I.loc
 ⟨m,hn,I.bk,O7 I.ok.bsz I.ok.above⟩
def Inv.lt(I:Inv X pins σ H s):X.env.locals<s.heap.objs.size:=let⟨_,hn,_⟩:=I.loc;hn.lt
def Inv.sz(I:Inv X pins σ H s):X.s₀.heap.objs.size<=s.heap.objs.size:=O7 I.ok.above (A1j I.lt)
def Inv.nofs(I:Inv X pins σ H s){a:Ud}(h:s.heap.objs.size<=a):a∉X.fs:=fun b=>by
 obtain⟨_,o,c,_⟩:=I.ok.funs.mem b;exact absurd (C4 (B7 c) (O7 I.sz h)) (L8 _)
def Inv.cne(I:Inv X pins σ H s):∀x c,X.env.cells.lookup x=Z c->c≠X.env.locals:=fun x c e z=>by
 obtain⟨v,o,d,hd⟩:=I.cell x c e;obtain⟨m,⟨o',es,ep,a,b,_⟩,_⟩:=I.loc;rw[z,a]at d;cases d;rw[b]at hd;cases hd
def Inv.funs(I:Inv X pins σ H s):s.heap.FunFrames X.base X.outer:=by
 have all:∀(l:Tx Env),(∀b∈frs l,b∈X.fs)->X.s₀.heap.FunFrames X.base l->s.heap.FunFrames X.base l:=by
  intro l
  induction l with
  |nil=>intro _ _;trivial
  |cons env r ih=>
   intro hs f;obtain⟨g,⟨L,o,a,hn,h,hd⟩,i⟩:=f;have c:L∈X.fs:=hs L (by unfold frs;rw[Z0,a];exact A9);obtain⟨sl,e⟩:=I.base.slot L o h (I.ok.frf L c) c fun z=>I.ok.exfs L z c;exact⟨g,⟨L,_,a,hn,e,hd⟩,ih (fun b d=>hs b (by unfold frs;rw[Z0,a];exact B0 _ d)) i⟩
 exact all X.outer (fun _ d=>d) I.ok.funs
def Inv.stack(I:Inv X pins σ H s):s.heap.FunFrames X.base X.stack:=by
 rcases I.ok.stk with e|⟨e,a⟩
 .rw[e];exact I.funs
 .rw[e];obtain⟨m,hn,_⟩:=I.loc;refine .cons (by rw[I.ok.kind];decide) a hn ?_ I.funs;exact Heap.get?_none_of_le (O7 I.ok.bsz I.ok.above)
def Inv.stkSub(I:Inv X pins σ H s):∀b∈frs X.stack,b∈X.env.locals::X.fs:=fun b a=>by
 rcases I.ok.stk with e|⟨e,c⟩
 .rw[e]at a;exact B0 _ a
 .rw[e]at a;unfold frs at a;rw[Z0,c]at a;exact a
def Inv.stkFree(I:Inv X pins σ H s):∀b∈frs X.stack,H b=Y:=fun b hb=>by
 rcases List.mem_cons.mp (I.stkSub b hb)with e|hb
 .rw[e];exact I.free
 .obtain⟨_,o,a,_⟩:=I.ok.funs.mem hb;exact I.base.free b o a (I.ok.frf b hb) fun z=>I.ok.exfs b z hb
def Inv.step{t':Nat}{d':Drawn}{ch:Td}(I:Inv X pins σ H s)
 (f:∀b∈ch,(b∈X.ex\/X.s₀.heap.objs.size<=b)/\b≠X.env.locals/\(∀x c,X.env.cells.lookup x=Z c->c≠b)/\∀p∈X.pn++pins,p.1≠b)
 (keep:∀b o,b≠X.env.locals->b∉X.fs->b∉ch->s.heap.get? b=Z o->H b=Y->h'.get? b=Z o)
 (slot:∀b o,b≠X.env.locals->b∈X.fs->b∉ch->s.heap.get? b=Z o->H b=Y->∃sl,h'.get? b=Z { o with slots:=sl }) (free:∀b o,b∉ch->s.heap.get? b=Z o->H b=Y->H' b=Y)
 (there:∀b o,b∉ch->s.heap.get? b=Z o->∃o',h'.get? b=Z o')
 (tups:∀b xs,H b=Z (.tup xs)->H' b=Z (.tup xs)) (frzs:∀b o u,H b=Z (.frz o u)->H' b=Z (.frz o u)) (tbls:∀b ps,H b=Z (.tbl ps)->∃more,H' b=Z (.tbl (ps++more)))
 (ns:∀m,s.heap.Ns X.env.locals m->h'.Ns X.env.locals m) (hok:HOk X.prog X.w H' h') (L:AllBare g'):
 Inv X pins σ H' { s with heap:=h',gens:=g',drawn:=d',toks:=t' }:=by
 have C:∀b o,X.s₀.heap.get? b=Z o->b≠X.env.locals:=fun b o e=>C8 (C4 (B7 e) I.ok.above)
 have j:∀b o,X.s₀.heap.get? b=Z o->b∉X.ex->b∉ch:=fun b o e a y=>by
  rcases (f b y).1 with z|z
  .exact a z
  .exact absurd (C4 (B7 e) z) (L8 _)
 have g:∀x c,X.env.cells.lookup x=Z c->∀v,s.heap.IsCell c v->h'.IsCell c v:=fun x c e v ⟨o,B,hd⟩=>by
  have h:c∉ch:=fun z=>(f c z).2.2.1 x c e rfl;by_cases F:c∈X.fs
  .obtain⟨sl,q⟩:=slot c o (I.cne x c e) F h B (I.freeC x c e);exact⟨_,q,hd⟩
  .exact⟨o,keep c o (I.cne x c e) F h B (I.freeC x c e),hd⟩
 refine⟨I.ok,I.os,L,⟨fun b o e n y a=>?_,fun b o e n y a=>?_,fun b o e n a=>?_,fun b o e a=>?_,fun b xs e=>tups b xs (I.base.tups b xs e),fun b o xs e=>frzs b o xs (I.base.frzs b o xs e),fun b ps e=>?_⟩,?_,fun x c e=>?_,?_,fun x c e=>?_,fun p G=>?_,hok,I.len⟩
 .exact keep b o (C b o e) y (j b o e a) (I.base.keep b o e n y a) (I.base.free b o e n a)
 .obtain⟨sl,t⟩:=I.base.slot b o e n y a;obtain⟨E,D⟩:=slot b _ (C b o e) y (j b o e a) t (I.base.free b o e n a);exact⟨E,D⟩
 .obtain⟨o',t⟩:=I.base.there b o e a;exact free b o' (j b o e a) t (I.base.free b o e n a)
 .obtain⟨o',t⟩:=I.base.there b o e a;exact there b o' (j b o e a) t
 .obtain⟨M,t⟩:=I.base.tbls b ps e;obtain⟨N,D⟩:=tbls b _ t;exact⟨M++N,by rw[D,Array.append_assoc]⟩
 .obtain⟨m,hn,O⟩:=I.loc;refine⟨m,ns m hn,fun i x v t D P=>?_⟩;obtain⟨u,r,l⟩:=O i x v t D P;refine⟨u,r,?_⟩;rcases l with l|⟨k,c,e,z⟩
  .exact .inl l
  .exact .inr ⟨k,c,e,g x c e _ z⟩
 .obtain⟨v,z⟩:=I.cell x c e;exact⟨v,g x c e v z⟩
 .obtain⟨m,⟨o,_,_,B,_⟩,_⟩:=I.loc;exact free _ o (fun z=>(f _ z).2.1 rfl) B I.free
 .obtain⟨v,o,B,hd⟩:=I.cell x c e;exact free c o (fun z=>(f c z).2.2.1 x c e rfl) B (I.freeC x c e)
 .obtain⟨e,n,ne,J,d⟩:=I.pin p G;have h:p.1∉ch:=fun z=>(f p.1 z).2.2.2 p G rfl;exact⟨keep p.1 p.2 ne J h e n,free p.1 p.2 h e n,ne,J,d⟩
def Inv.un{t':Nat}(I:Inv X pins σ H s)(u:Un X.fs [] H H' s.heap h')(hok:HOk X.prog X.w H' h'):Inv X pins σ H' { s with heap:=h',toks:=t' }:=by
 obtain⟨m,⟨o,es,ep,g,r⟩,_⟩:=id I.loc;obtain⟨sl,h⟩:=u.any g I.free (by simp)
 exact I.step (g':=s.gens) (d':=s.drawn) (ch:=[]) (fun _ z=>nomatch z) (fun b o _ c _ e n=>u.keep b o e n c (by simp)) (fun b o _ c _ e n=>u.slot b o e n c (by simp)) (fun b o _ e n=>u.free b o e n (by simp)) (fun b o _ e=>u.there b o e (by simp)) u.tups u.frzs u.tbls (fun j hm=>by
  obtain⟨o',d,f,a,i⟩:=hm;rw[g]at a;cases a;exact⟨_,d,f,h,i⟩) hok I.bare
def Inv.call{t':Nat}{d':Drawn}(I:Inv X pins σ H s)(u:Un (frs X.stack) ch H H' s.heap h')(hok:HOk X.prog X.w H' h')(k:AllBare g')
 (d:∀b∈ch,(b∈X.ex\/X.s₀.heap.objs.size<=b)/\b≠X.env.locals/\(∀x c,X.env.cells.lookup x=Z c->c≠b)/\∀p∈X.pn++pins,p.1≠b):
 Inv X pins σ H' { s with heap:=h',gens:=g',drawn:=d',toks:=t' }:=by
 obtain⟨m,⟨o,es,ep,j,r⟩,_⟩:=id I.loc;obtain⟨sl,g⟩:=u.any j I.free fun z=>(d _ z).2.1 rfl
 exact I.step (ch:=ch) d (fun b o g l a e n=>u.keep b o e n (fun z=>(List.mem_cons.mp (I.stkSub b z)).elim g l) a) (fun b o _ _ a e n=>u.any e n a) (fun b o a e n=>u.free b o e n a) (fun b o a e=>u.there b o e a) u.tups u.frzs u.tbls (fun t hm=>by
  obtain⟨o',h,i,f,q⟩:=hm;rw[j]at f;cases f;exact⟨_,h,i,g,q⟩) hok k
def Inv.turned{t':Nat}{it:Ud}(I:Inv X pins σ H s)(k:∀b o,b≠it->s.heap.get? b=Z o->h'.get? b=Z o)(hn:H it=Y)(f:it≠X.env.locals)
 (g:it∈X.ex\/X.s₀.heap.objs.size<=it) (h:∀x c,X.env.cells.lookup x=Z c->c≠it) (i:∀p∈X.pn++pins,p.1≠it):Inv X pins σ H { s with heap:=h',toks:=t' }:=by
 have d:∀b u,H b=Z u->b≠it:=fun b u e z=>by rw[z,hn]at e;cases e
 refine I.step (g':=s.gens) (d':=s.drawn) (ch:=[it]) (fun b j=>?_) (fun b o _ _ a e _=>k b o (fun z=>a (by simp[z])) e) (fun b o _ _ a e _=>⟨o.slots,k b o (fun z=>a (by simp[z])) e⟩) (fun _ _ _ _ n=>n)
  (fun b o a e=>⟨o,k b o (fun z=>a (by simp[z])) e⟩) (fun _ _ e=>e) (fun _ _ _ e=>e) (fun b ps e=>⟨#[],by rw[e];simp⟩) (fun m hm=>?_) (fun b u e=>?_) I.bare
 .have e:b=it:=by simpa using j
  subst e;exact⟨g,f,h,i⟩
 .obtain⟨o,es,ep,l,r⟩:=hm;exact⟨o,es,ep,k _ o (U3 f) l,r⟩
 .refine(I.hok b u e).stay (fun c v a q=>k c v ?_ q) (fun _ q=>q) fun _ _ q=>q;rcases a with z|z
  .rw[z];exact d b u e
  .exact d c _ z
def Inv.tok(I:Inv X pins σ H s)(t:Nat):Inv X pins σ H { s with toks:=t }:=I.un (h':=s.heap) (t':=t) Un.refl I.hok
def Inv.kept{t':Nat}(I:Inv X pins σ H s)(k:∀b u,s.heap.get? b=Z u->h'.get? b=Z u):Inv X pins σ H { s with heap:=h',toks:=t' }:=I.un (Un.kept k) (I.hok.kept k)
def Inv.laid{a:Ud}{t':Nat}(I:Inv X pins σ H s)(k:∀b u,s.heap.get? b=Z u->h'.get? b=Z u)(c:s.heap.objs.size<=a)(new:gM X.prog X.w (upd H a o) h' a o):
 Inv X pins σ (upd H a o) { s with heap:=h',toks:=t' }:=I.un (Un.laid k c (I.hok.fresh c)) (I.hok.laid k c new)
def Inv.write{e:Ud}{t':Nat}(I:Inv X pins σ H s)(c:Mut (H x))(d:e=x\/H e=Z (.own x))(k:∀b u,b≠e->s.heap.get? b=Z u->h'.get? b=Z u)(a:∃u,h'.get? e=Z u)
 (new:gM X.prog X.w (upd H x o) h' x o):Inv X pins σ (upd H x o) { s with heap:=h',toks:=t' }:=I.un (Un.write c d k a) (I.hok.write c d k a new)
def Inv.pins_of{a:T2}(I:Inv X pins σ H s)(h:∀p∈a,s.heap.get? p.1=Z p.2/\H p.1=Y/\p.1≠X.env.locals/\p.1∉X.fs/\∀v,p.2.data≠.cell v):Inv X a σ H s:=
 ⟨I.ok,I.os,I.bare,I.base,I.loc,I.cell,I.free,I.freeC,fun p b=>(List.mem_append.mp b).elim (fun z=>I.pin p (D4 _ z)) (h p),I.hok,I.len⟩
def zG{N:Te}(c:N.Nodup){i j:Nat}{x:Str}(a:N[i]?=Z x)(b:N[j]?=Z x):i=j:=by
 obtain⟨f,d⟩:=List.getElem?_eq_some_iff.mp a;obtain⟨g,e⟩:=List.getElem?_eq_some_iff.mp b;exact(List.getElem_inj c).mp (d.trans e.symm)
def wJ{A:Ug}{i:Nat}{x:Str}{Q:Unit->Uc->Prop}(I:Inv X pins σ H s)(hN:X.N.Nodup)(hi:X.N[i]?=Z x)(l:Loc X.env.scope x)(r:RelV v u)
 (h:∀T,Inv X pins (σ.set i (Z v)) H T->(∃a,Heap.SameBut a s.heap T.heap/\(a=X.env.locals\/X.env.cells.lookup x=Z a))->Q () T) (hf:X.fn x=true\/X.env.scope.names.lookup x=Z .local:=by first|exact .inl rfl|exact .inr rfl|assumption):wpAny M A (storeName X.env x u) Q E s:=by
 obtain⟨m,hn,hl⟩:=id I.loc;have J:(X.env.scope.kind==.class || (X.env.scope.kind==.module&&X.env.locals != X.env.globals))=false:=by rw[I.ok.kind];rfl
 have C:i<σ.length:=by rw[I.len];exact(List.getElem?_eq_some_iff.mp hi).1
 have cne:=I.cne
 have f:∀{a:Ud}{h':Heap},(∃o,s.heap.get? a=Z o/\H a=Y)->Heap.SameBut a s.heap h'->HOk X.prog X.w H h':=fun{a h'} ha hs b ob e=>by
  obtain⟨_,_,t⟩:=ha;refine(I.hok b ob e).stay (fun c S hc q=>(hs.2 c ?_).trans q) (fun _ q=>q) fun _ _ q=>q;rintro rfl;rcases hc with rfl|hc
  .rw[t]at e;cases e
  .rw[t]at hc;cases hc
 rcases l with hk|hk
 .refine wpAny_storeName_local hk hn (fun h' U hs=>?_) J;obtain⟨oL,_,_,W,_⟩:=id hn;refine h _ ⟨I.ok,I.os,I.bare,⟨fun b o e n D l=>?_,fun b o e n D l=>?_,I.base.free,fun b o e l=>?_,I.base.tups,I.base.frzs,I.base.tbls⟩,⟨_,U,fun j y v' g B e3=>?_⟩,fun y c e=>?_,I.free,I.freeC,fun p hp=>?_,f ⟨oL,W,I.free⟩ hs,by simpa using I.len⟩ ⟨_,hs,.inl rfl⟩
  .exact(hs.2 b (C8 (C4 (B7 e) I.ok.above))).trans (I.base.keep b o e n D l)
  .obtain⟨sl,g⟩:=I.base.slot b o e n D l;exact⟨sl,(hs.2 b (C8 (C4 (B7 e) I.ok.above))).trans g⟩
  .obtain⟨o',g⟩:=I.base.there b o e l;exact⟨o',(hs.2 b (C8 (C4 (B7 e) I.ok.above))).trans g⟩
  .by_cases F:j=i
   .subst F;rw[hi]at g;cases g;rw[E2 C]at B;cases B;exact⟨u,r,.inl ⟨hk,by simp⟩⟩
   .rw[D5 (U3 F)]at B;obtain⟨u',r',q⟩:=hl j y v' g B e3;refine⟨u',r',?_⟩;rcases q with⟨k,e⟩|⟨k,c,e,z⟩
    .refine .inl ⟨k,?_⟩;have:y≠x:=fun e=>F (zG hN g (e▸hi));simp[this,e]
    .exact .inr ⟨k,c,e,z.sameBut hs (cne y c e)⟩
  .obtain⟨S,z⟩:=I.cell y c e;exact⟨S,z.sameBut hs (cne y c e)⟩
  .obtain⟨e,n,ne,nf,d⟩:=I.pin p hp;exact⟨(hs.2 p.1 ne).trans e,n,ne,nf,d⟩
 .have G:X.fn x=true:=by
   rcases hf with z|z
   .exact z
   .rw[z]at hk;cases hk
  obtain⟨c,hc⟩:=I.ok.has x (.inl hk);obtain⟨S,z⟩:=I.cell x c hc;refine wpAny_storeName_cell I.ok.kind hk hc z (fun h' L hs=>?_);obtain⟨oc,O,P⟩:=id z;refine h { s with heap:=h' } ⟨I.ok,I.os,I.bare,⟨fun b o e n D l=>?_,fun b o e n D l=>?_,I.base.free,fun b o e l=>?_,I.base.tups,I.base.frzs,I.base.tbls⟩,⟨m,hn.sameBut hs (U3 (cne x c hc)),fun j y v' g B e3=>?_⟩,fun y c' e=>?_,I.free,I.freeC,fun p hp=>?_,f ⟨oc,O,I.freeC x c hc⟩ hs,by simpa using I.len⟩ ⟨c,hs,.inr hc⟩
  .exact(hs.2 b (C8 (C4 (B7 e) (I.ok.cab x c G hc)))).trans (I.base.keep b o e n D l)
  .obtain⟨sl,g⟩:=I.base.slot b o e n D l;exact⟨sl,(hs.2 b (C8 (C4 (B7 e) (I.ok.cab x c G hc)))).trans g⟩
  .obtain⟨o',g⟩:=I.base.there b o e l;exact⟨o',(hs.2 b (C8 (C4 (B7 e) (I.ok.cab x c G hc)))).trans g⟩
  .by_cases F:j=i
   .subst F;rw[hi]at g;cases g;rw[E2 C]at B;cases B;exact⟨u,r,.inr ⟨.inl hk,c,hc,L⟩⟩
   .rw[D5 (U3 F)]at B;obtain⟨u',r',q⟩:=hl j y v' g B e3;refine⟨u',r',?_⟩;rcases q with q|⟨k,c',e,z'⟩
    .exact .inl q
    .refine .inr ⟨k,c',e,z'.sameBut hs ?_⟩;rintro rfl;exact F (zG hN g (I.ok.inj _ _ _ e hc▸hi))
  .by_cases R:c'=c
   .subst R;exact⟨_,L⟩
   .obtain⟨w2,z2⟩:=I.cell y c' e;exact⟨w2,z2.sameBut hs R⟩
  .obtain⟨e,n,ne,nf,d⟩:=I.pin p hp;refine⟨(hs.2 p.1 ?_).trans e,n,ne,nf,d⟩;intro q;rw[q,O]at e;have q':oc=p.2:=D7 e;exact d S (by rw[<- q'];exact P)
def AR{A:Ug}{i:Nat}{x:Str}{Q:Unit->Uc->Prop}(I:Inv X pins σ H s)(b:X.N.Nodup)(hi:X.N[i]?=Z x)(c:Loc X.env.scope x)(r:RelV v u)
 (h:∀a,Inv X pins (σ.set i (Z v)) H a->Q () a) (d:X.fn x=true\/X.env.scope.names.lookup x=Z .local:=by first|exact .inl rfl|exact .inr rfl|assumption):wpAny M A (storeName X.env x u) Q E s:=
 wJ I b hi c r (fun a e _=>h a e) d
def Inv.call'{a:Uc}(I:Inv X pins σ H s)(f:a.os=s.os)(u:Un (frs X.stack) ch H H' s.heap a.heap)(hok:HOk X.prog X.w H' a.heap)(g:AllBare a.gens)
 (d:∀b∈ch,(b∈X.ex\/X.s₀.heap.objs.size<=b)/\b≠X.env.locals/\(∀x c,X.env.cells.lookup x=Z c->c≠b)/\∀p∈X.pn++pins,p.1≠b):Inv X pins σ H' a:=by
 obtain⟨h',g',d',t',o'⟩:=a;have e:o'=s.os:=f;subst e;exact I.call (g':=g') (t':=t') (d':=d') u hok g d
end
abbrev XK:=Ua->Tk->Hp->Prop
noncomputable abbrev St:=Tx (Tz V)
abbrev VK:=V->Hp->Prop
abbrev TE:=St->Hp->VK->Prop
abbrev TT:=St->Hp->(Bool->Hp->Prop)->Prop
abbrev TA:=St->Hp->(Tf->Hp->Prop)->Prop
structure Ends where
 nx:St->Hp->Prop
 rt:VK
 bk:St->Hp->Prop:=fun _ _=>False
 ct:St->Hp->Prop:=fun _ _=>False
abbrev TS:=Ends->St->Hp->Prop
def EP(X:Cx)(pins:T2)(σ:St)(Q:VK)(u:Ua)(a:Uc):Prop:=∃v H',Inv X pins σ H' a/\RelV v u/\Q v H'
def TP(X:Cx)(pins:T2)(σ:St)(Q:Bool->Hp->Prop)(b:Bool)(a:Uc):Prop:=∃H',Inv X pins σ H' a/\Q b H'
def AP(X:Cx)(pins:T2)(σ:St)(Q:Tf->Hp->Prop)(us:T7)(a:Uc):Prop:=∃vs H',Inv X pins σ H' a/\bH vs us/\Q vs H'
def SP(X:Cx)(pins:T2)(D:Ends)(f:Flow)(b:Uc):Prop:=
 match f with
 |.next=>∃a H',Inv X pins a H' b/\D.nx a H'
 |.brk=>∃a H',Inv X pins a H' b/\D.bk a H'
 |.cont=>∃a H',Inv X pins a H' b/\D.ct a H'
 |.ret u=>∃v a H',Inv X pins a H' b/\RelV v u/\D.rt v H'
def PE(X:Cx)(e:Ue)(t:TE):Prop:=
 ∀(pins:T2)(s:Uc)(σ:St)(H:Hp)(Q:VK),Inv X pins σ H s->t σ H Q->wpAny (model X.prog X.w) X.A (eval e X.env) (EP X pins σ Q) X.xe s
def PT(X:Cx)(e:Ue)(t:TT):Prop:=
 ∀(pins:T2)(s:Uc)(σ:St)(H:Hp)(Q:Bool->Hp->Prop),Inv X pins σ H s->t σ H Q->wpAny (model X.prog X.w) X.A (isTrue e X.env (eval e X.env)) (TP X pins σ Q) X.xe s
def PW(X:Cx)(e:Ue)(t:TT):Prop:=
 ∀(a:Sem Ua)(pins:T2)(s:Uc)(σ:St)(H:Hp)(Q:Bool->Hp->Prop),Inv X pins σ H s->t σ H Q->wpAny (model X.prog X.w) X.A (isTrue e X.env a) (TP X pins σ Q) X.xe s
def PW.pt(h:PW X e t):PT X e t:=h _
def PA(X:Cx)(es:Ta)(t:TA):Prop:=
 ∀(pos:Pos)(pins:T2)(s:Uc)(σ:St)(H:Hp)(Q:Tf->Hp->Prop),Inv X pins σ H s->t σ H Q->wpAny (model X.prog X.w) X.A (spliced (backTo pos (starEach es X.env))) (AP X pins σ Q) X.xe s
def PS(X:Cx)(st:Stmt)(t:TS):Prop:=
 ∀(pins:T2)(s:Uc)(σ:St)(H:Hp)(D:Ends),Inv X pins σ H s->t D σ H->wpAny (model X.prog X.w) X.A (exec st X.env) (SP X pins D) X.xe s
def PSs(X:Cx)(st:Tb)(t:TS):Prop:=
 ∀(pins:T2)(s:Uc)(σ:St)(H:Hp)(D:Ends),Inv X pins σ H s->t D σ H->wpAny (model X.prog X.w) X.A (execs st X.env) (SP X pins D) X.xe s
def thn{b:Type}{t:Sem b}{Q c:b->Uc->Prop}{M:Model}{E:T1}{s:Uc}(h:wpAny M A t Q E s)(d:∀a s,Q a s->c a s):wpAny M A t c E s:=F8 h d fun _ _ x=>x
section
variable{X:Cx}
def bin{a b:Ue}{i tb:TE}(ha:PE X a i)(k:PE X b tb){pins:T2}{R:V->V->Hp->Prop}(I:Inv X pins σ H s)(h:i σ H fun x g=>tb σ g fun y c=>R x y c)
 {j:Type} {Q:j->Uc->Prop} {f:Ua->Ua->Sem j}
 (l:∀v u s2 x y c,Inv X pins σ c s2->RelV x v->RelV y u->R x y c->wpAny (model X.prog X.w) X.A (f v u) Q X.xe s2):
 wpAny (model X.prog X.w) X.A (eval a X.env) (fun v d=>wpAny (model X.prog X.w) X.A (eval b X.env) (fun u e=>wpAny (model X.prog X.w) X.A (f v u) Q X.xe e) X.xe d) X.xe s:=by
 refine thn (ha pins s σ H _ I h) fun v s1 ⟨x,g,m,n,o⟩=>?_;refine thn (k pins s1 σ g _ m o) fun u s2 ⟨y,c,p,q,r⟩=>?_;exact l v u s2 x y c p n q r
def aIM(i:Nat):TE:=fun σ H Q=>∃v,σ[i]?=Z (Z v)/\Q v H
noncomputable def tC(v:V):TE:=fun _ H Q=>Q v H
def aFJ{i:Nat}{x:Str}(g:X.N[i]?=Z x)(j:Vis X.env.scope x)(hd:(x==("__debug__":Str))=false:=by decide)(d:(x==("__classdict__":Str))=false:=by decide):PE X (.Name x pos) (aIM i):=by
 intro pins s σ H Q I h;obtain⟨v,e,h⟩:=h;obtain⟨m,hn,k⟩:=I.loc;obtain⟨u,r,l⟩:=k i x v g e j;have b:EP X pins σ Q u s:=⟨v,H,I,r,h⟩;rcases l with⟨hk,hm⟩|⟨hk,c,f,a⟩
 .exact wpAny_Name (wpAny_loadName_local I.ok.kind hk hn hm b) hd
 .rcases hk with hk|hk
  .exact wpAny_Name (wpAny_loadName_cell I.ok.kind hk f a b) hd
  .exact wpAny_Name (wpAny_loadName_free I.ok.kind hk f a b d) hd
def aHj{i j pos}:PE X (.Constant (.int i) j pos) (tC (.int i)):=fun _ _ _ H _ I h=>wpAny_Constant_int ⟨.int i,H,I.tok _,⟨_,rfl⟩,h⟩
def aIm{b j pos}:PE X (.Constant (.bool b) j pos) (tC (.bl b)):=fun _ _ _ H _ I h=>Constant_bool ⟨.bl b,H,I,rfl,h⟩
def aGs{j pos}:PE X (.Constant .none j pos) (tC .non):=fun _ _ _ H _ I h=>Constant_none ⟨.non,H,I,rfl,h⟩
def aGa{x j pos}:PE X (.Constant (.str x) j pos) (tC (.str x)):=fun _ _ _ H _ I h=>Calls.Constant_str ⟨.str x,H,I.tok _,⟨_,rfl⟩,h⟩
def Gl(X:Cx)(x:Str):Prop:=X.env.kindOf x=Z .globalImplicit
def vK{u:Ua}{pos:Pos}{Q:T1}(I:Inv X pins σ H s)(a:Gl X x)(hm:X.mg x=Z u)(h:Q u s)
 (hd:(x==("__debug__":Str))=false:=by decide):wpAny (model X.prog X.w) X.A (eval (.Name x pos) X.env) Q E s:=
 Calls.Name_function_global I.ok.kind a (Calls.loadGlobal_global (by rw[I.ok.glob];exact I.mod.glob.keeps I.bk) hm h) hd
def jD{u:Ua}{pos:Pos}{Q:T1}(I:Inv X pins σ H s)(a:Gl X x)(hm:X.mg x=Y)(b:bootBuiltins x=Z u)(h:Q u s)
 (hn:x≠"__name__":=by decide) (hd:(x==("__debug__":Str))=false:=by decide):wpAny (model X.prog X.w) X.A (eval (.Name x pos) X.env) Q E s:=by
 obtain⟨mb,c,d⟩:=I.mod.blt;exact Calls.Name_function_global I.ok.kind a (Calls.loadGlobal_builtin (by rw[I.ok.glob];exact I.mod.glob.keeps I.bk) hm (by rw[I.ok.blt];exact c.keeps I.bk) ((d x hn).trans b) h) hd
def aCQ{u:Ua}(a:Gl X x)(hm:X.mg x=Z u)(r:RelV v u)(hd:(x==("__debug__":Str))=false:=by decide):PE X (.Name x pos) (tC v):=
 fun _ _ _ H _ I h=>vK I a hm ⟨v,H,I,r,h⟩ hd
def yL{u:Ua}(a:Gl X x)(hm:X.mg x=Y)(b:bootBuiltins x=Z u)(r:RelV v u)(hn:x≠"__name__":=by decide)(hd:(x==("__debug__":Str))=false:=by decide):PE X (.Name x pos) (tC v):=
 fun _ _ _ H _ I h=>jD I a hm b ⟨v,H,I,r,h⟩ hn hd
variable{a b:Ue}{ta tb:TE}{pos:Pos}
def PC(X:Cx)(op:CmpOp)(a b:Ue)(t:TE):Prop:=
 ∀(pins:T2)(s:Uc)(σ:St)(H:Hp)(Q:VK),Inv X pins σ H s->t σ H Q->
  wpAny (model X.prog X.w) X.A (eval a X.env) (fun v c=>wpAny (model X.prog X.w) X.A (eval b X.env) (fun u d=>wpAny (model X.prog X.w) X.A (compareOp op v u) (EP X pins σ Q) X.xe d) X.xe c) X.xe s
def aAU(b:Ue){op:CmpOp}(h:op≠.In)(c:op≠.NotIn):behindInMarks op b=false:=by
 have d:(op==CmpOp.In)=false:=by cases op<;>first|rfl|exact absurd rfl h
 have e:(op==CmpOp.NotIn)=false:=by cases op<;>first|rfl|exact absurd rfl c
 cases b<;>simp[behindInMarks,d,e]
noncomputable def tB(t:TE):TT:=fun σ H Q=>t σ H fun x d=>∃c,x=.bl c/\Q c d
def pt_cmp{op:CmpOp}{t:TE}(h:PC X op a b t)(e:behindInMarks op b=false:=by first|exact aAU _ (by decide) (by decide)|rfl):PT X (.Compare a [op] [b] pos) (tB t):=by
 intro pins s σ H Q I f;refine wpAny_isTrue_Compare1 (thn (h pins s σ H _ I f) fun v s1 e=>thn e fun u s2 g=>thn g fun c m ⟨x,i,j,k,l⟩=>?_) e;obtain⟨d,rfl,q⟩:=l;cases k;exact Y2 ⟨i,j,q⟩
def aGL{e:Ue}{t:TE}(h:PE X e t)(f:∀c,isTrue e X.env c=(do let v <- c;standAt e.pos;holding [v] (truthy v)):=by intro _;rfl):PT X e (tB t):=by
 intro pins s σ H Q I g;refine isTrue_plain (thn (h pins s σ H _ I g) fun v s1 ⟨x,i,j,k,l⟩=>?_) (f _);obtain⟨d,rfl,q⟩:=l;cases k;exact Y2 ⟨i,j,q⟩
variable{tA tB':TT}{rest:Ta}
noncomputable def aHA(t u:TT):TT:=fun σ H Q=>t σ H fun c d=>if c=true then u σ d Q else Q false d
noncomputable def tOr(t u:TT):TT:=fun σ H Q=>t σ H fun c d=>if c=true then Q true d else u σ d Q
noncomputable def aIP(t:TT):TT:=fun σ H Q=>t σ H fun c d=>Q (!c) d
def aCO(ha:PT X a tA):PW X (.BoolOp .And [a] pos) tA:=by
 intro d pins s σ H Q I h;refine isTrue_and (thn (ha pins s σ H Q I h) fun c s1 e=>?_);cases c with
 |true=>exact isTrue_and_nil e
 |false=>exact e
def aFT(ha:PT X a tA):PW X (.BoolOp .Or [a] pos) tA:=by
 intro d pins s σ H Q I h;refine isTrue_or (thn (ha pins s σ H Q I h) fun c s1 e=>?_);cases c with
 |false=>exact isTrue_or_nil e
 |true=>exact e
def aFQ(ha:PT X a tA)(g:PW X (.BoolOp .And (b::rest) pos) tB'):PW X (.BoolOp .And (a::b::rest) pos) (aHA tA tB'):=by
 intro i pins s σ H Q I h;refine isTrue_and (thn (ha pins s σ H _ I h) fun c s1 ⟨d,e,f⟩=>?_);cases c with
 |true=>exact g i pins s1 σ d Q e f
 |false=>exact⟨d,e,f⟩
def aIo(ha:PT X a tA)(g:PW X (.BoolOp .Or (b::rest) pos) tB'):PW X (.BoolOp .Or (a::b::rest) pos) (tOr tA tB'):=by
 intro i pins s σ H Q I h;refine isTrue_or (thn (ha pins s σ H _ I h) fun c s1 ⟨d,e,f⟩=>?_);cases c with
 |true=>exact⟨d,e,f⟩
 |false=>exact g i pins s1 σ d Q e f
def aFi(ha:PT X a tA):PT X (.UnaryOp .Not a pos) (aIP tA):=by
 intro pins s σ H Q I h;exact isTrue_not (ha pins s σ H (fun c d=>Q (!c) d) I h)
noncomputable def aDP(ta tb:TE):TE:=fun σ H Q=>ta σ H fun x d=>∃c,x=.bl c/\if c=true then tb σ d Q else Q (.bl false) d
noncomputable def aEd(ta:TE):TE:=fun σ H Q=>ta σ H fun x d=>∃c,x=.bl c/\Q (.bl (!c)) d
def aFB{op}(h:PE X a t):PE X (.BoolOp op [a] pos) t:=fun pins s σ H Q I c=>BoolOp_one (h pins s σ H Q I c)
def aEy(ha:PE X a ta)(g:PE X (.BoolOp .And (b::rest) pos) tb):PE X (.BoolOp .And (a::b::rest) pos) (aDP ta tb):=by
 intro pins s σ H Q I h;refine BoolOp_and (thn (ha pins s σ H _ I h) fun v s1 ⟨x,e,f,i,d⟩=>?_);obtain⟨c,rfl,d⟩:=d;cases i;refine Y2 ?_;cases c with
 |true=>exact g pins s1 σ e Q f d
 |false=>exact⟨.bl false,e,f,rfl,d⟩
def aGT(ha:PE X a ta):PE X (.UnaryOp .Not a pos) (aEd ta):=by
 intro pins s σ H Q I h;refine UnaryOp_ (thn (ha pins s σ H _ I h) fun v s1 ⟨x,e,f,g,d⟩=>?_);obtain⟨c,rfl,d⟩:=d;cases g;exact not_of (Y2 ⟨.bl (!c),e,f,rfl,d⟩)
end
def SqL(K:Fg)(H:Hp)(a:Ud)(xs:Tf):Prop:=
 Rd H a (.lst xs) \/
  ∃(o:Obj)(b:Tl)(n:Nat),K.lookup a=Z o/\o.cls=.type "list"/\o.dict=Y/\o.data=.seq b n/\b.size<=sizeLine/\bH xs b.toList
def SqT(K:Fg)(H:Hp)(a:Ud)(xs:Tf):Prop:=
 Rd H a (.tup xs) \/
  ∃(o:Obj)(b:Tl)(n:Nat),K.lookup a=Z o/\o.cls=.type "tuple"/\o.data=.seq b n/\b.size<=sizeLine/\bH xs b.toList
def aJo:Ua->Tz V
 |.none=>Z .non
 |.bool b=>Z (.bl b)
 |.int i _=>Z (.int i)
 |.str x _=>Z (.str x)
 |.bytes b _=>Z (.byt b)
 |.float b _=>Z (.flt b)
 |.ref a=>Z (.ref a)
 |.type n=>Z (.ty n)
 |_=>Y
def RelV.abs(r:RelV x u):aJo u=Z x:=by
 cases x with
 |non=>cases r;rfl
 |bl _=>cases r;rfl
 |int _=>obtain⟨t,rfl⟩:=r;rfl
 |str _=>obtain⟨t,rfl⟩:=r;rfl
 |byt _=>obtain⟨t,rfl⟩:=r;rfl
 |flt _=>obtain⟨t,rfl⟩:=r;rfl
 |ref _=>cases r;rfl
 |ty _=>cases r;rfl
def RelV.inj(r:RelV x u)(q:RelV y u):x=y:=D7 (r.abs.symm.trans q.abs)
def bH.inj:∀{xs ys:Tf}{us:T7},bH xs us->bH ys us->xs=ys
 |_,_,_,.nil,.nil=>rfl
 |_,_,_,.cons r t,.cons a b=>by rw[r.inj a,bH.inj t b]
section
variable{X:Cx}{pins:T2}{σ:St}{H:Hp}{s:Uc}{a:Ud}{xs ys:Tf}
def SqL.of(h:H a=Z (.lst xs)):SqL K H a xs:=.inl (.inl h)
def SqT.of(h:H a=Z (.tup xs)):SqT K H a xs:=.inl (.inl h)
def Inv.list(I:Inv X pins σ H s)(h:SqL X.K H a xs):∃b:T7,bH xs b/\PlainL s.heap a b.toArray/\xs.length<=sizeLine:=by
 rcases h with h|⟨o,b,n,c,d,hd,hs,f,r⟩
 .obtain⟨z,b,n,r,e⟩:=h.ok I.hok;exact⟨b,r,⟨_,n,e,rfl,rfl,rfl⟩,z⟩
 .refine⟨b.toList,r,⟨o,n,I.kIn a o c,d,hd,by simpa using hs⟩,?_⟩;have e:=r.length;simp only[Array.length_toList]at e;omega
def Inv.tuple(I:Inv X pins σ H s)(h:SqT X.K H a xs):∃b:T7,bH xs b/\IsTup s.heap a b.toArray/\xs.length<=sizeLine:=by
 rcases h with h|⟨o,b,n,c,d,hs,f,r⟩
 .obtain⟨z,b,r,p⟩:=h.ok I.hok;exact⟨b,r,p,z⟩
 .refine⟨b.toList,r,⟨o,I.kIn a o c,d,n,by simpa using hs⟩,?_⟩;have e:=r.length;simp only[Array.length_toList]at e;omega
def Inv.list_inj(I:Inv X pins σ H s)(h:SqL X.K H a xs)(h':SqL X.K H a ys):xs=ys:=by
 obtain⟨c,r,⟨o,n,e,_,_,d⟩,_⟩:=I.list h;obtain⟨b,i,⟨o',k,f,_,_,g⟩,_⟩:=I.list h';rw[e]at f;cases f;rw[d]at g;injection g with j _
 have:c=b:=by simpa using C9 Array.toList j
 subst this;exact r.inj i
def Inv.tuple_inj(I:Inv X pins σ H s)(h:SqT X.K H a xs)(h':SqT X.K H a ys):xs=ys:=by
 obtain⟨c,r,⟨o,e,_,n,d⟩,_⟩:=I.tuple h;obtain⟨b,i,⟨o',f,_,k,g⟩,_⟩:=I.tuple h';rw[e]at f;cases f;rw[d]at g;injection g with j _
 have:c=b:=by simpa using C9 Array.toList j
 subst this;exact r.inj i
end
noncomputable abbrev Cx.wish(X:Cx)(E:T1):Cx:={ X with xe:=E }
abbrev Cx.nox(X:Cx):Cx:=X.wish fun _ _=>False
def Cx.Ok.wish{X:Cx}(ok:X.Ok)(E:T1):(X.wish E).Ok:=
 ⟨ok.mod,ok.kind,ok.glob,ok.blt,ok.above,ok.inj,ok.has,ok.cab,ok.hd,ok.frames,ok.stk,ok.exf,ok.bs,ok.bsz,ok.noex,ok.exfs,ok.funs,ok.frf⟩
def Cx.Ok.unwish{X:Cx}(ok:(X.wish E).Ok):X.Ok:=
 ⟨ok.mod,ok.kind,ok.glob,ok.blt,ok.above,ok.inj,ok.has,ok.cab,ok.hd,ok.frames,ok.stk,ok.exf,ok.bs,ok.bsz,ok.noex,ok.exfs,ok.funs,ok.frf⟩
section
variable{X:Cx}{pins:T2}{σ:St}{H:Hp}{s:Uc}{E:T1}
def Inv.wish(I:Inv X pins σ H s)(E:T1):Inv (X.wish E) pins σ H s:=⟨I.ok.wish E,I.os,I.bare,I.base,I.loc,I.cell,I.free,I.freeC,I.pin,I.hok,I.len⟩
def Inv.unwish(I:Inv (X.wish E) pins σ H s):Inv X pins σ H s:=⟨I.ok.unwish,I.os,I.bare,I.base,I.loc,I.cell,I.free,I.freeC,I.pin,I.hok,I.len⟩
def SP.unwish(h:SP (X.wish E) pins D f b):SP X pins D f b:=by
 cases f with
 |next=>obtain⟨a,H',I,q⟩:=h;exact⟨a,H',I.unwish,q⟩
 |brk=>obtain⟨a,H',I,q⟩:=h;exact⟨a,H',I.unwish,q⟩
 |cont=>obtain⟨a,H',I,q⟩:=h;exact⟨a,H',I.unwish,q⟩
 |ret u=>obtain⟨v,a,H',I,r,q⟩:=h;exact⟨v,a,H',I.unwish,r,q⟩
def PSs.nox{st:Tb}(h:PSs X.nox st t):PSs X st t:=fun pins s σ H D I a=>
 F8 (h pins s σ H D (I.wish _) a) (fun _ _ q=>q.unwish) fun _ _ z=>False.elim z
end
section
variable{X:Cx}{st:Stmt}{rest:Tb}{t u:TS}{e:Ue}{te:TE}{pos:Pos}
noncomputable def aDW:TS:=fun D σ H=>D.nx σ H
noncomputable def aFg(t u:TS):TS:=fun D σ H=>t { D with nx:=u D } σ H
def aBN:PSs X [] aDW:=fun _ _ σ H _ I h=>wpAny_execs_nil ⟨σ,H,I,h⟩
def HX(b:PS X st t)(c:PSs X rest u):PSs X (st::rest) (aFg t u):=by
 intro pins s σ H D I h;refine wpAny_execs_cons (thn (b pins s σ H { D with nx:=u D } I h) fun f s1 q=>?_);cases f with
 |next=>
  obtain⟨a,H',d,q⟩:=q;exact c pins s1 a H' D d q
 |ret v=>exact q
 |brk=>exact q
 |cont=>exact q
def OC(a:PS X st t):PSs X [st] t:=by
 intro pins s σ H D I h;refine wpAny_execs_cons (thn (a pins s σ H D I h) fun f s1 q=>?_);cases f with
 |next=>exact wpAny_execs_nil q
 |ret v=>exact q
 |brk=>exact q
 |cont=>exact q
def Inv.quiet(I:Inv X pins σ H s):interactive X.env=false:=by simp[interactive,I.ok.kind]
noncomputable def ZE(te:TE):TS:=fun D σ H=>te σ H fun _ a=>D.nx σ a
def QA(a:PE X e te)(hs:swapsWith e Y pos.line X.env=pure false:=by rfl):PS X (.Expr e pos) (ZE te):=by
 intro pins s σ H D I h;exact wpAny_Expr_any (thn (a pins s σ H _ I h) fun v s1 ⟨x,b,c,f,d⟩=>⟨σ,b,c,d⟩) I.quiet hs
noncomputable def aIe(te:TE):TS:=fun D σ H=>te σ H D.rt
def aFm(a:PE X e te):PS X (.Return (Z e) pos) (aIe te):=by
 intro pins s σ H D I h;exact wpAny_Return_some (thn (a pins s σ H _ I h) fun v s1 ⟨x,b,c,d,f⟩=>⟨x,σ,b,c,d,f⟩)
noncomputable def aHl(c:TT)(t u:TS):TS:=fun D σ H=>c σ H fun b a=>if b=true then t D σ a else u D σ a
def aEt{c:Ue}{a b:Tb}{f:TT}(k:PT X c f)(ha:PSs X a t)(l:PSs X b u):PS X (.If c a b pos) (aHl f t u):=by
 intro pins s σ H D I h;refine wpAny_If (thn (k pins s σ H _ I h) fun d s1 ⟨g,i,j⟩=>?_);cases d with
 |true=>exact ha pins s1 σ g D i j
 |false=>exact l pins s1 σ g D i j
end
abbrev TG:=V->St->Hp->(St->Hp->Prop)->Prop
abbrev TGs:=Tf->St->Hp->(St->Hp->Prop)->Prop
def PG(X:Cx)(a:Ue)(t:TG):Prop:=
 ∀(pins:T2)(s:Uc)(σ:St)(H:Hp)(v:V)(u:Ua)(Q:St->Hp->Prop),Inv X pins σ H s->RelV v u->t v σ H Q->
  wpAny (model X.prog X.w) X.A (assign a X.env u) (fun _ c=>∃b H',Inv X pins b H' c/\Q b H') X.xe s
def PGs(X:Cx)(b:Ta)(t:TGs):Prop:=
 ∀(pins:T2)(s:Uc)(σ:St)(H:Hp)(vs:Tf)(us:T7)(Q:St->Hp->Prop),Inv X pins σ H s->bH vs us->t vs σ H Q->
  wpAny (model X.prog X.w) X.A (assignInOrder ((assignEach b X.env).map (·.2)) us) (fun _ c=>∃a H',Inv X pins a H' c/\Q a H') X.xe s
abbrev aCU:=V->V->V->Hp->(Hp->Prop)->Prop
def aGB(X:Cx)(t:aCU):Prop:=
 ∀(pins:T2)(s:Uc)(σ:St)(H:Hp)(o i v:V)(a b u:Ua)(Q:Hp->Prop),Inv X pins σ H s->RelV o a->RelV i b->RelV v u->t o i v H Q->
  wpAny (model X.prog X.w) X.A (setItem a b u) (fun _ c=>∃H',Inv X pins σ H' c/\Q H') X.xe s
section
variable{X:Cx}{pos:Pos}
def zC(i:Nat):TG:=fun v σ H Q=>Q (σ.set i (Z v)) H
def aDx{i:Nat}{x:Str}(a:X.N.Nodup)(hi:X.N[i]?=Z x)(b:Loc X.env.scope x)(c:X.fn x=true\/X.env.scope.names.lookup x=Z .local:=by first|exact .inl rfl|exact .inr rfl|assumption):PG X (.Name x pos) (zC i):=by
 intro pins s σ H v u Q I r h;exact wpAny_assign_Name (AR I a hi b r (fun e d=>⟨_,H,d,h⟩) c)
noncomputable def aHQ:TGs:=fun vs σ H Q=>vs=[]/\Q σ H
noncomputable def aEc(t:TG)(u:TGs):TGs:=fun vs σ H Q=>∃v r,vs=v::r/\t v σ H fun a H'=>u r a H' Q
def aDa:PGs X [] aHQ:=by
 intro pins s σ H vs us Q I r h;obtain⟨e,h⟩:=h;subst e;cases r;exact assignInOrder_nil ⟨σ,H,I,h⟩
def aAV{e:Ue}{es:Ta}{t:TG}{u:TGs}(b:PG X e t)(c:PGs X es u)
 (hs:(assignEach (e::es) X.env).map (·.2)=assign e X.env::(assignEach es X.env).map (·.2):=by rfl):PGs X (e::es) (aEc t u):=by
 intro pins s σ H vs us Q I r h;obtain⟨v,k,d,h⟩:=h;subst d;cases r with
 |cons r f=>
  rw[hs];refine assignInOrder_cons (thn (b pins s σ H _ _ _ I r h) fun _ s1 ⟨a,g,i,j⟩=>?_);exact c pins s1 a g _ _ Q i f j
noncomputable def aDb(K:Fg)(n:Nat)(t:TGs):TG:=fun v σ H Q=>∃a xs,v=.ref a/\SqT K H a xs/\xs.length=n/\t xs σ H Q
def aGE{n:Nat}(g:X.calm=true)(h:PGs X es t)
 (hn:(assignEach es X.env).length=n:=by rfl) (c:(assignEach es X.env).findIdx? (·.1)=Y:=by rfl):PG X (.Tuple es k pos) (aDb X.K n t):=by
 intro pins s σ H v u Q I r d;obtain⟨a,xs,i,j,l,d⟩:=d;subst i;cases r;obtain⟨m,f,ht,w⟩:=I.tuple j;refine assign_Tuple_tuple (I.ok.hd g) ht (by simp[hn,<- l,f.length]) c fun h' p=>?_;have q:Inv X pins σ H { s with heap:=h' }:=I.kept (t':=s.toks) fun b o e=>p b o (C8 (B7 e)) e;exact h pins _ σ H xs _ Q q (by simpa using f) d
noncomputable def aIG(to a:TE)(t:aCU):TG:=fun v σ H Q=>to σ H fun o b=>a σ b fun i c=>t o i v c fun d=>Q σ d
def aEw{o i:Ue}{to c:TE}{t:aCU}(d:PE X o to)(hi:PE X i c)(hs:aGB X t)
 (ha:∀v,assign (.Subscript o i pos) X.env v=(do
  let a <- holding [v] (eval o X.env);let b <- holding [v,a] (eval i X.env)
  standAt pos
  holding [v,a,b] (setItem a b v)
  release [v,a,b] []):=by intro _;rfl):PG X (.Subscript o i pos) (aIG to c t):=by
 intro pins s σ H v u Q I r h;rw[ha];refine A1 (S5 (thn (d pins s σ H _ I h) fun a s1 ⟨x,e,f,g,j⟩=>?_));refine A1 (S5 (thn (hi pins s1 σ e _ f j) fun b s2 ⟨y,k,l,m,n⟩=>?_));refine A1 (Y6 (A1 (S5 (thn (hs pins s2 σ k x y v a b u _ l g m r n) fun _ z ⟨p,q,w⟩=>?_))));exact wpAny_release ⟨σ,p,q,w⟩
noncomputable def WQ(a:TE)(g:TG):TS:=fun D σ H=>a σ H fun x b=>g x σ b D.nx
def aFR{tg e:Ue}{a:TE}{g:TG}(b:PE X e a)(c:PG X tg g)(hs:swapsWithSole [tg] e pos.line X.env=pure false:=by rfl)(d:swappedStores [tg] e X.env=pure Y:=by rfl)
 (f:(assignEach [tg] X.env).map (·.2)=[assign tg X.env]:=by rfl):PS X (.Assign [tg] e pos) (WQ a g):=by
 intro pins s σ H D I h;refine wpAny_Assign_stores (thn (b pins s σ H _ I h) fun v s1 ⟨x,i,j,k,l⟩=>?_) hs d;rw[f];exact thn (c pins s1 σ i x v _ j k l) fun _ s2 q=>q
def aHf{i:Nat}{x:Str}{e:Ue}{b:TE}{a:Pos}(c:X.N.Nodup)(hi:X.N[i]?=Z x)(d:Loc X.env.scope x)(f:PE X e b)(hs:swapsWith e (Z (.Name x a)) pos.line X.env=pure false:=by rfl)(g:X.fn x=true\/X.env.scope.names.lookup x=Z .local:=by first|exact .inl rfl|exact .inr rfl|assumption):
 PS X (.Assign [.Name x a] e pos) (WQ b (zC i)):=by
 intro pins s σ H D I h;refine wpAny_Assign_Name (thn (f pins s σ H _ I h) fun v s1 ⟨y,j,k,l,m⟩=>?_) hs;exact AR k c hi d l (fun s2 n=>⟨_,j,n,m⟩) g
end
structure It where
 go:Nat->Hp->Prop
 yld:Nat->Hp->V->Hp->Prop
 stop:Nat->Hp->Prop
def pP(X:Cx)(pins:T2)(H:Hp)(b:Ud):Prop:=
 H b=Y/\b≠X.env.locals/\b∉X.fs/\(b∈X.ex\/X.s₀.heap.objs.size<=b)/\(∀x c,X.env.cells.lookup x=Z c->c≠b)/\∀p∈X.pn++pins,p.1≠b
def Inv.fpOk{H':Hp}{b:Ud}(I:Inv X pins σ H s)(a:s.heap.objs.size<=b)(hn:H' b=Y):pP X pins H' b:=by
 refine⟨hn,A0t (C4 I.lt a),I.nofs a,.inr (O7 I.sz a),fun x c e z=>?_,fun p d z=>?_⟩
 .obtain⟨v,q⟩:=I.cell x c e;exact absurd (C4 q.lt (by rw[z];exact a)) (L8 _)
 .exact absurd (C4 (B7 (I.pin p d).1) (by rw[z];exact a)) (L8 _)
structure Turn(P:Uf)(w:World)(K:Fg)(tg:Ue)(J:It)(fp:Td)(it:Ud)(tn:Nat->Heap->Prop):Prop where
 mem:it∈fp
 obj:∀i h,tn i h->∀b∈fp,∃o,h.get? b=Z o/\∀v,o.data≠.cell v
 keep:∀i h h',tn i h->(∀b∈fp,∀o,h.get? b=Z o->h'.get? b=Z o)->tn i h'
 item:∀(X:Cx),X.prog=P->X.w=w->X.K=K->X.calm=true->∀(i:Nat)(pins:T2)(s:Uc)(σ:St)(H:Hp)(E:T1),Inv X pins σ H s->(∀b∈fp,pP X pins H b)->tn i s.heap->J.go i H->
  wpAny (model P w) X.A (pyNext (.ref it)) (fun r s1=>∃u,r=Z u /\
   wpAny (model P w) X.A (letOwnedTupleGo tg (.ref it) u) (fun _ s2=>∃x H',Inv X pins σ H' s2/\RelV x u/\J.yld i H x H'/\tn (i+1) s2.heap/\∀b∈fp,H' b=Y) E s1) E s
 done:∀(X:Cx),X.prog=P->X.w=w->X.K=K->X.calm=true->∀(i:Nat)(pins:T2)(s:Uc)(σ:St)(H:Hp)(E:T1),Inv X pins σ H s->(∀b∈fp,pP X pins H b)->tn i s.heap->J.stop i H->
  wpAny (model P w) X.A (pyNext (.ref it)) (fun r s1=>r=Y/\Inv X pins σ H s1) E s
 self:∀(A:Ug)(i:Nat)(s:Uc)(Q:T1)(E:T1),tn i s.heap->Q (.ref it) s->wpAny (model P w) A (pyIter (.ref it)) Q E s
abbrev TI:=St->Hp->(It->Hp->Prop)->Prop
def PIE(X:Cx)(pins:T2)(σ:St)(tg:Ue)(R:It->Hp->Prop)(a:Ua)(s2:Uc):Prop:=
 ∃(it:Ud)(fp:Td)(tn:Nat->Heap->Prop)(J:It)(H':Hp),a=.ref it/\Inv X pins σ H' s2/\Turn X.prog X.w X.K tg J fp it tn/\tn 0 s2.heap/\(∀b∈fp,pP X pins H' b)/\R J H'
def PI(X:Cx)(tg iter:Ue)(wi:TI):Prop:=
 ∀(pins:T2)(s:Uc)(σ:St)(H:Hp)(R:It->Hp->Prop),Inv X pins σ H s->wi σ H R->
  wpAny (model X.prog X.w) X.A (eval iter X.env) (fun v s1=>wpAny (model X.prog X.w) X.A (pyIter v) (PIE X pins σ tg R) X.xe s1) X.xe s
def VT{A:Ug}{it:Ud}{o:Obj}{Q:Unit->Uc->Prop}(b:s.heap.get? it=Z o)(c:o.cls=.type n)(hd:o.data=.fields vs)
 (hn:["enumerate","zip","dict_itemiterator","dict_reverseitemiterator","odict_iterator","itertools.zip_longest","itertools.pairwise"].contains n=false) (a:Q () s):wpAny M A (letOwnedTupleGo tg (.ref it) u) Q E s:=by
 unfold letOwnedTupleGo
 cases tg<;>first
  |exact B5 a
  |(cases u<;>first
   |exact B5 a
   | (refine A1 (wpAny_load b ?_)
      rw[c,hd];show wpAny M A (if (["enumerate","zip","dict_itemiterator","dict_reverseitemiterator","odict_iterator","itertools.zip_longest","itertools.pairwise"].contains n&&vs[0]?==Z (rawInt _))=true then _ else _) Q E s;rw[B2 (by intro h;rw[hn,Bool.false_and]at h;cases h)];exact B5 a))
def Itl(K:Fg)(a:Ud):It:=
 ⟨fun i H=>∃xs x,SqL K H a xs/\xs[i]?=Z x,fun i H x H'=>H'=H/\∀xs,SqL K H a xs->xs[i]?=Z x,fun i H=>∃xs,SqL K H a xs/\xs.length<=i⟩
def Itt(K:Fg)(a:Ud):It:=
 ⟨fun i H=>∃xs x,SqT K H a xs/\xs[i]?=Z x,fun i H x H'=>H'=H/\∀xs,SqT K H a xs->xs[i]?=Z x,fun i H=>∃xs,SqT K H a xs/\xs.length<=i⟩
noncomputable def Itr(lo:Int)(n:Nat):It:=⟨fun i _=>i<n,fun i H x H'=>H'=H/\x=.int (lo+i),fun i _=>n<=i⟩
def TY{P:Uf}(a it:Ud):Turn P w K tg (Itl K a) [it] it (fun i h=>h.IsListIter it a i) where
 mem:=by simp
 obj:=fun i h st b hb=>by
  have e:b=it:=by simpa using hb
  subst e;obtain⟨o,e,c,d⟩:=st;exact⟨o,e,fun v z=>by rw[d]at z;cases z⟩
 keep:=fun i h h' st k=>st.at fun o e=>k it (by simp) o e
 item:=by
  intro X hP hw hK hc i pins s σ H E I hf st hg;subst hP hw hK;obtain⟨xs,x,hq,hx⟩:=hg;obtain⟨its,rv,p,hz⟩:=I.list hq;obtain⟨u,hu,ru⟩:=rv.get hx;obtain⟨f0,f1,f2,f3,f4,f5⟩:=hf it (by simp);refine wpAny_pyNext_list_item st p.isList (x:=u) (by simpa using hu) fun h' st' sb=>?_;have I1:Inv X pins σ H { s with heap:=h' }:=I.turned (t':=s.toks) (fun b o hb e=>(sb.2 b hb).trans e) f0 f1 f3 f4 f5;obtain⟨o,e,c,d⟩:=id st';exact⟨u,rfl,VT (s:={ s with heap:=h' }) e c d (by decide) ⟨x,H,I1,ru,⟨rfl,fun ys hy=>by rw[I.list_inj hy hq];exact hx⟩,st',fun b hb=>(hf b hb).1⟩⟩
 done:=by
  intro X hP hw hK hc i pins s σ H E I hf st hg;subst hP hw hK;obtain⟨xs,hq,hx⟩:=hg;obtain⟨its,rv,p,hz⟩:=I.list hq;obtain⟨f0,f1,f2,f3,f4,f5⟩:=hf it (by simp);have hl:=rv.length;exact wpAny_pyNext_list_end (I.ok.hd hc) st p.isList (by simp;omega) fun h' eb=>⟨rfl,I.turned (t':=s.toks) (fun b o hb e=>eb b o hb e) f0 f1 f3 f4 f5⟩
 self:=fun _ _ _ _ _ st h=>wpAny_pyIter_listiter st h
def NJ{P:Uf}(a it:Ud):Turn P w K tg (Itt K a) [it] it (fun i h=>h.IsTupleIter it a i) where
 mem:=by simp
 obj:=fun i h st b hb=>by
  have e:b=it:=by simpa using hb
  subst e;obtain⟨o,e,c,d⟩:=st;exact⟨o,e,fun v z=>by rw[d]at z;cases z⟩
 keep:=fun i h h' st k=>st.at fun o e=>k it (by simp) o e
 item:=by
  intro X hP hw hK hc i pins s σ H E I hf st hg;subst hP hw hK;obtain⟨xs,x,hq,hx⟩:=hg;obtain⟨its,rv,p,hz⟩:=I.tuple hq;obtain⟨u,hu,ru⟩:=rv.get hx;obtain⟨f0,f1,f2,f3,f4,f5⟩:=hf it (by simp);refine wpAny_pyNext_tuple_item st (show s.heap.IsTuple a its.toArray from p) (x:=u) (by simpa using hu) fun h' st' sb=>?_;have I1:Inv X pins σ H { s with heap:=h' }:=I.turned (t':=s.toks) (fun b o hb e=>(sb.2 b hb).trans e) f0 f1 f3 f4 f5;obtain⟨o,e,c,d⟩:=id st';exact⟨u,rfl,VT (s:={ s with heap:=h' }) e c d (by decide) ⟨x,H,I1,ru,⟨rfl,fun ys hy=>by rw[I.tuple_inj hy hq];exact hx⟩,st',fun b hb=>(hf b hb).1⟩⟩
 done:=by
  intro X hP hw hK hc i pins s σ H E I hf st hg;subst hP hw hK;obtain⟨xs,hq,hx⟩:=hg;obtain⟨its,rv,p,hz⟩:=I.tuple hq;obtain⟨f0,f1,f2,f3,f4,f5⟩:=hf it (by simp);have hl:=rv.length;exact wpAny_pyNext_tuple_end (I.ok.hd hc) st (show s.heap.IsTuple a its.toArray from p) (by simp;omega) fun h' eb=>⟨rfl,I.turned (t':=s.toks) (fun b o hb e=>eb b o hb e) f0 f1 f3 f4 f5⟩
 self:=fun _ _ _ _ _ st h=>wpAny_pyIter_tupleiter st h
def LZ{P:Uf}(it:Ud)(lo:Int)(n:Nat):Turn P w K tg (Itr lo n) [it] it (fun i h=>IsRangeIter h it (lo+(i:Nat)*1) ((n:Int)-(i:Nat)) 1) where
 mem:=by simp
 obj:=fun i h st b hb=>by
  have e:b=it:=by simpa using hb
  subst e
  exact⟨_,st,fun v z=>by
   have z':Data.fields _=Data.cell v:=z;cases z'⟩
 keep:=fun i h h' st k=>k it (by simp) _ st
 item:=by
  intro X hP hw hK hc i pins s σ H E I hf st hg;subst hP hw hK;obtain⟨f0,f1,f2,f3,f4,f5⟩:=hf it (by simp);have W:=Walks.range (prog:=X.prog) (w:=X.w) (I.ok.hd hc) it lo 1 n;refine W.item i s _ _ hg st fun v h' tk hv st' kk=>?_;obtain⟨t,rfl⟩:=hv;have I1:Inv X pins σ H { s with heap:=h',toks:=tk }:=I.turned (fun b o hb e=>kk b o (by simpa using hb) e) f0 f1 f3 f4 f5;refine⟨_,rfl,VT (s:={ s with heap:=h',toks:=tk }) (n:="range_iterator") st' rfl rfl (by decide) ⟨.int (lo+i),H,I1,⟨t,?_⟩,⟨rfl,rfl⟩,st',fun b hb=>(hf b hb).1⟩⟩;rw[Int.mul_one]
 done:=by
  intro X hP hw hK hc i pins s σ H E I hf st hg;subst hP hw hK;obtain⟨f0,f1,f2,f3,f4,f5⟩:=hf it (by simp);exact wpAny_pyNext_range_end (I.ok.hd hc) st (by have:n<=i:=hg;omega) fun h' eb=>⟨rfl,I.turned (t':=s.toks) (fun b o hb e=>eb b o hb e) f0 f1 f3 f4 f5⟩
 self:=fun _ _ _ _ _ st h=>wpAny_pyIter_rangeiter st h
section
variable{X:Cx}{tg:Ue}
def HY{R:It->Hp->Prop}{E:T1}{lo hi:Int}{t u v:Tok}{tk:Nat}(I:Inv X pins σ H s)(c:-(2 ^ 62)<=lo)(d:lo<2 ^ 62)(f:-(2 ^ 62)<=hi)(h4:hi<2 ^ 62)
 (q:R (Itr lo (hi-lo).toNat) H):wpAny (model X.prog X.w) X.A (pyIter (.ref s.heap.objs.size)) (PIE X pins σ tg R) E { s with heap:=s.heap.push { cls:=.type "range",data:=.fields #[.int lo t,.int hi u,.int 1 v] },toks:=tk }:=by
 refine wpAny_pyIter_range (IsRange.new ..) (small_one c d f h4) ?_;have a:Inv X pins σ H { s with heap:=s.heap.push { cls:=.type "range",data:=.fields #[.int lo t,.int hi u,.int 1 v] },toks:=tk }:=I.kept fun b o e=>A3 _ e
 refine⟨(s.heap.push { cls:=.type "range",data:=.fields #[.int lo t,.int hi u,.int 1 v] }).objs.size,[(s.heap.push { cls:=.type "range",data:=.fields #[.int lo t,.int hi u,.int 1 v] }).objs.size],_,_,H,rfl,
  a.kept (t':=tk) fun b o e=>A3 _ e,LZ _ lo (hi-lo).toNat,?_,fun b g=>?_,q⟩
 .have h:lo+((0:Nat):Int)*1=lo:=by simp
  have i:(((hi-lo).toNat:Nat):Int)-((0:Nat):Int)=Builtin.Range.rangeSize lo hi 1:=by rw[rangeSize_one];split<;>omega
  show IsRangeIter _ _ (lo+((0:Nat):Int)*1) ((((hi-lo).toNat:Nat):Int)-((0:Nat):Int)) 1;rw[h,i];exact C6 _ rfl
 .have e:b=(s.heap.push { cls:=.type "range",data:=.fields #[.int lo t,.int hi u,.int 1 v] }).objs.size:=by simpa using g
  subst e;exact a.fpOk (B4 _) (a.hok.fresh (B4 _))
def aDI(a:TA):TI:=fun σ H R=>a σ H fun vs b=>∃j:Int,vs=[.int j]/\-(2 ^ 62)<=j/\j<2 ^ 62/\R (Itr 0 j.toNat) b
def aDZ(a:TA):TI:=fun σ H R=>a σ H fun vs b=>∃i j:Int,vs=[.int i,.int j]/\(-(2 ^ 62)<=i/\i<2 ^ 62/\-(2 ^ 62)<=j/\j<2 ^ 62)/\R (Itr i (j-i).toNat) b
def UU{a:Ue}{c:TA}{p:Pos}(d:Gl X "range")(hm:X.mg "range"=Y)(ha:PA X [a] c)(hs:starEach [a] X.env=[(false,eval a X.env)]:=by rfl):PI X tg (.Call (.Name "range" p) [a] [] pos) (aDI c):=by
 intro pins s σ H R I h;refine Call_ (jD I d hm boot_range (J8 (thn (ha pos pins s σ H _ I h) fun us s1 ⟨vs,l,f,g,b⟩=>?_) hs rfl));obtain⟨j,e,b,i,q⟩:=b;subst e;cases g with
 |cons r k=>
  cases k;obtain⟨t,rfl⟩:=r;exact call_range_1 (HY f (by omega) (by omega) b i (by simpa using q))
def TB{a b:Ue}{g:TA}{p pos:Pos}(k:Gl X "range")(hm:X.mg "range"=Y)(ha:PA X [a,b] g)(hs:starEach [a,b] X.env=[(false,eval a X.env),(false,eval b X.env)]:=by rfl)(c:starEach [b] X.env=[(false,eval b X.env)]:=by rfl):
 PI X tg (.Call (.Name "range" p) [a,b] [] pos) (aDZ g):=by
 intro pins s σ H R I h;refine Call_ (jD I k hm boot_range (J8 (thn (ha pos pins s σ H _ I h) fun us s1 ⟨vs,w,l,m,d⟩=>?_) (by rw[hs,c]) (by rw[c];rfl)));obtain⟨i,j,e,⟨d,n,o,u⟩,q⟩:=d;subst e;cases m with
 |cons r f=>
  cases f with
  |cons v f=>
   cases f;obtain⟨t,rfl⟩:=r;obtain⟨x,rfl⟩:=v;exact call_range_2 (HY l d n o u q)
def aID(wi:TI)(g:TG)(tb:TS):TS:=fun D σ H=>wi σ H fun J d=>∃W:Nat->Nat->St->Hp->Prop,(∃m,W 0 m σ d)/\∀i m σ H,W i m σ H->
 (J.stop i H/\D.nx σ H)\/(J.go i H/\∃N:St->Hp->Prop,(∀a H',N a H'->∃c,c<m/\W (i+1) c a H')/\∀x H',J.yld i H x H'->g x σ H' fun b e=>tb { D with nx:=N,ct:=N,bk:=D.nx } b e)
noncomputable def qZ(fp:Td)(h:Heap):T2:=fp.filterMap fun b=>(h.get? b).map fun o=>(b,o)
def eK{fp:Td}{h:Heap}{b:Ud}{o:Obj}(a:b∈fp)(e:h.get? b=Z o):(b,o)∈qZ fp h:=List.mem_filterMap.mpr ⟨b,a,by rw[e];rfl⟩
def DB{p:Ud×Obj}(a:p∈qZ fp h):p.1∈fp/\h.get? p.1=Z p.2:=by
 obtain⟨b,c,e⟩:=List.mem_filterMap.mp a;cases q:h.get? b with
 |none=>rw[q]at e;cases e
 |some o=>
  rw[q]at e;have d:(b,o)=p:=D7 e;subst d;exact⟨c,q⟩
def Inv.pinned{fp:Td}(I:Inv X pins σ H s)(f:∀b∈fp,pP X pins H b)(g:∀b∈fp,∃o,s.heap.get? b=Z o/\∀v,o.data≠.cell v):Inv X (pins++qZ fp s.heap) σ H s:=
 I.pins_of fun p h=>(List.mem_append.mp h).elim (fun z=>I.pin p (B3 _ z)) fun z=>by
  obtain⟨a,e⟩:=DB z;obtain⟨i,j,k,_⟩:=f p.1 a;obtain⟨o,c,d⟩:=g p.1 a;rw[e]at c;cases c;exact⟨e,i,j,k,d⟩
def Inv.unpinned{pins a:T2}(I:Inv X (pins++a) σ H s):Inv X pins σ H s:=I.pins_of fun p b=>I.pin p (B3 _ (D4 _ b))
def aGc{iter:Ue}{t:Tb}{wi:TI}{g:TG}{tb:TS}{pos:Pos}(B:PassesOwn (model X.prog X.w) X.A X.env X.xe)(U:X.calm=true)(hi:PI X tg iter wi)(hg:PG X tg g)(c:PSs X t tb)
 (hs:∀x,foldedSetIterable iter X.env x=pure x:=by intro _;rfl):PS X (.For tg iter t [] pos) (aID wi g tb):=by
 intro pins s σ H D I h;refine wpAny_For (thn (hi pins s σ H _ I h) fun v s1 h1=>thn h1 fun a0 s2 h2=>?_) hs;obtain⟨it,fp,tn,J,H2,e,I2,T,M,V,W,⟨m0,w0⟩,C⟩:=h2;subst e;have j:∀{H':Hp},(∀b∈fp,H' b=Y)->∀b∈fp,pP X pins H' b:=fun hn b c=>⟨hn b c,(V b c).2⟩;refine codeAny_forLoop_any (fun n s'=>∃i k H',Inv X pins k H' s'/\tn i s'.heap/\(∀b∈fp,H' b=Y)/\W i n k H') ?_ m0 ⟨0,σ,H2,I2,M,fun b c=>(V b c).1,w0⟩;rintro n s3 ⟨i,l,L,I3,E,F,w3⟩;rcases C i n l L w3 with⟨stop,qn⟩|⟨go,N,hN,step⟩
 .refine A1o B (thn (T.done X rfl rfl rfl U i pins s3 l L X.xe I3 (j F) E stop) fun r s4 ⟨O,I4⟩=>?_);subst O;exact wpAny_execs_nil ⟨l,L,I4,qn⟩
 .refine A1o B (thn (T.item X rfl rfl rfl U i pins s3 l L X.xe I3 (j F) E go) fun r s4 ⟨u,O,h4⟩=>?_);subst O;refine A1o B (thn h4 fun _ s5 ⟨x,H5,I5,r5,y5,z,P⟩=>?_);have Q:=I5.pinned (j P) (T.obj _ _ z);refine A1o B (thn (hg _ s5 l H5 x u _ Q r5 (step x H5 y5)) fun _ s6 ⟨R,H6,I6,q6⟩=>?_);refine A1o B (thn (c _ s6 R H6 _ I6 q6) fun f S y=>?_)
  have again:∀{a:St}{p:Hp},Inv X (pins++qZ fp s5.heap) a p S->N a p->∃m,m<n/\∃i k H',Inv X pins k H' S/\tn i S.heap/\(∀b∈fp,H' b=Y)/\W i m k H':=fun{a p} q G=>by
   obtain⟨m',hm,w7⟩:=hN a p G;refine⟨m',hm,i+1,a,p,q.unpinned,T.keep _ _ _ z fun b c o e=>(q.pin (b,o) (B3 _ (B3 _ (eK c e)))).1,fun b c=>?_,w7⟩;obtain⟨o,e,d⟩:=T.obj _ _ z b c;exact(q.pin (b,o) (B3 _ (B3 _ (eK c e)))).2.1
  cases f with
  |next=>obtain⟨a,p,q,G⟩:=y;exact again q G
  |cont=>obtain⟨a,p,q,G⟩:=y;exact again q G
  |brk=>obtain⟨a,p,q,y⟩:=y;exact⟨a,p,q.unpinned,y⟩
  |ret v=>obtain⟨x7,a,p,q,r7,y⟩:=y;exact⟨x7,a,p,q.unpinned,r7,y⟩
end
abbrev R2:=V->V->Hp->VK->Prop
def OpR(X:Cx)(f:Tq)(r:R2):Prop:=
 ∀(pins:T2)(s:Uc)(σ:St)(H:Hp)(x y:V)(v u:Ua)(Q:VK),Inv X pins σ H s->RelV x v->RelV y u->r x y H Q->
  wpAny (model X.prog X.w) X.A (f v u) (EP X pins σ Q) X.xe s
def UnR(X:Cx)(f:Ua->Sem Ua)(r:V->Hp->VK->Prop):Prop:=
 ∀(pins:T2)(s:Uc)(σ:St)(H:Hp)(x:V)(v:Ua)(Q:VK),Inv X pins σ H s->RelV x v->r x H Q->
  wpAny (model X.prog X.w) X.A (f v) (EP X pins σ Q) X.xe s
def dM(X:Cx)(f:Ua)(r:Tf->Hp->VK->Prop):Prop:=
 ∀(pins:T2)(s:Uc)(σ:St)(H:Hp)(xs:Tf)(us:T7)(Q:VK),Inv X pins σ H s->bH xs us->r xs H Q->
  wpAny (model X.prog X.w) X.A (call f us) (EP X pins σ Q) X.xe s
def aJl(X:Cx)(r:V->Hp->(Bool->Hp->Prop)->Prop):Prop:=
 ∀(pins:T2)(s:Uc)(σ:St)(H:Hp)(x:V)(v:Ua)(Q:Bool->Hp->Prop),Inv X pins σ H s->RelV x v->r x H Q->
  wpAny (model X.prog X.w) X.A (truthy v) (TP X pins σ Q) X.xe s
noncomputable def tOp(r:R2)(a tb:TE):TE:=fun σ H Q=>a σ H fun x b=>tb σ b fun y c=>r x y c Q
noncomputable def tUn(r:V->Hp->VK->Prop)(a:TE):TE:=fun σ H Q=>a σ H fun x b=>r x b Q
noncomputable def rI(C:Int->Int->Prop)(g:Int->Int->V):R2:=fun x y H Q=>∃i j,x=.int i/\y=.int j/\C i j/\Q (g i j) H
noncomputable def rI0(g:Int->Int->V):R2:=fun x y H Q=>∃i j,x=.int i/\y=.int j/\Q (g i j) H
def rU(g:Int->V):V->Hp->VK->Prop:=fun x H Q=>∃i,x=.int i/\Q (g i) H
section
variable{X:Cx}{a b c:Ue}{ta tb tc:TE}{pos:Pos}
def aGZ(ha:PE X a ta)(j:PE X b tb){pins:T2}{R:V->V->Hp->Prop}(I:Inv X pins σ H s)
 (h:ta σ H fun x i=>tb σ i fun y d=>R x y d) {Q:T1} {f:Tq}
 (k:∀v u s2 x y d,Inv X pins σ d s2->RelV x v->RelV y u->R x y d->wpAny (model X.prog X.w) X.A (f v u) Q X.xe s2):
 wpAny (model X.prog X.w) X.A (eval a X.env) (fun v e=>wpAny (model X.prog X.w) X.A (eval b X.env) (fun u g=>wpAny (model X.prog X.w) X.A (f v u) Q X.xe g) X.xe e) X.xe s:=by
 refine thn (ha pins s σ H _ I h) fun v s1 ⟨x,i,l,m,n⟩=>?_;refine thn (j pins s1 σ i _ l n) fun u s2 ⟨y,d,o,p,q⟩=>?_;exact k v u s2 x y d o m p q
def aHz(d:OpR X (binaryOp op) r)(ha:PE X a ta)(e:PE X b tb):PE X (.BinOp a op b pos) (tOp r ta tb):=by
 intro pins s σ H Q I h;exact wpAny_BinOp (aGZ ha e I h fun v u s2 x y f g i j q=>d pins s2 σ f x y v u Q g i j q)
def aIE{op:UnaryOp}{r:V->Hp->VK->Prop}(d:UnR X (unaryOp op) r)(ha:PE X a ta):PE X (.UnaryOp op a pos) (tUn r ta):=by
 intro pins s σ H Q I h;exact UnaryOp_ (thn (ha pins s σ H _ I h) fun v s1 ⟨x,e,f,g,i⟩=>d pins s1 σ e x v Q f g i)
def opI{f:Tq}{C:Int->Int->Prop}{g:Int->Int->Int}
 (rule:∀(i j:Int)(t u:Tok)(s:Uc)(Q:T1)(E:T1),C i j->Q (.int (g i j) s.toks) { s with toks:=s.toks+1 }->wpAny (model X.prog X.w) X.A (f (.int i t) (.int j u)) Q E s):
 OpR X f (rI C fun i j=>.int (g i j)):=by
 intro pins s σ H x y v u Q I d e h;obtain⟨i,j,rfl,rfl,k,q⟩:=h;obtain⟨t,rfl⟩:=d;obtain⟨l,rfl⟩:=e;exact rule i j t l s _ _ k ⟨.int (g i j),H,I.tok _,⟨_,rfl⟩,q⟩
def aGh{f:Tq}{g:Int->Int->Int}
 (rule:∀(i j:Int)(t u:Tok)(s:Uc)(Q:T1)(E:T1),Q (.int (g i j) s.toks) { s with toks:=s.toks+1 }->wpAny (model X.prog X.w) X.A (f (.int i t) (.int j u)) Q E s):
 OpR X f (rI0 fun i j=>.int (g i j)):=by
 intro pins s σ H x y v u Q I d e h;obtain⟨i,j,rfl,rfl,q⟩:=h;obtain⟨t,rfl⟩:=d;obtain⟨k,rfl⟩:=e;exact rule i j t k s _ _ ⟨.int (g i j),H,I.tok _,⟨_,rfl⟩,q⟩
def aDA{f:Tq}{g:Int->Int->Bool}
 (rule:∀(i j:Int)(t u:Tok)(s:Uc)(Q:T1)(E:T1),Q (.bool (g i j)) s->wpAny (model X.prog X.w) X.A (f (.int i t) (.int j u)) Q E s):
 OpR X f (rI0 fun i j=>.bl (g i j)):=by
 intro pins s σ H x y v u Q I d e h;obtain⟨i,j,rfl,rfl,q⟩:=h;obtain⟨t,rfl⟩:=d;obtain⟨k,rfl⟩:=e;exact rule i j t k s _ _ ⟨.bl (g i j),H,I,rfl,q⟩
def aHS(i j:Int):Prop:=0<=j/\j<=1000000/\i.natAbs<2 ^ 64
def aGt(i j:Int):Prop:=(-(2 ^ 64)<i/\i<2 ^ 64)\/(-(2 ^ 64)<j/\j<2 ^ 64)
def aGt.ok(h:aGt i j):IntMulOk i j:=by
 rcases h with⟨d,e⟩|⟨d,e⟩
 .exact .of_left (intBits_le_64 d e)
 .exact .of_right (intBits_le_64 d e)
def op_add:OpR X (binaryOp .Add) (rI0 fun i j=>.int (i+j)):=aGh fun _ _ _ _ _ _ _ q=>add_int q
def aEG:OpR X (binaryOp .Sub) (rI0 fun i j=>.int (i-j)):=aGh fun _ _ _ _ _ _ _ q=>sub_int q
def aEW:OpR X (binaryOp .Mod) (rI (fun _ j=>0<j) fun i j=>.int (i % j)):=opI fun i j _ _ _ _ _ d q=>by
 have e:(0:Int)<j:=d;exact mod_int' (by omega) (by rw[Int.fmod_eq_emod_of_nonneg i (by omega)];exact q)
def aEE:OpR X (binaryOp .LShift) (rI aHS fun i j=>.int (i*2 ^ j.toNat)):=opI fun _ _ _ _ _ _ _ d q=>lshift_int_small d.1 d.2.1 d.2.2 q
def aFc:OpR X (binaryOp .BitAnd) (rI0 fun i j=>.int (Builtin.bitAnd i j)):=aGh fun _ _ _ _ _ _ _ q=>and_int q
def unI{f:Ua->Sem Ua}{g:Int->Int}
 (rule:∀(i:Int)(t:Tok)(s:Uc)(Q:T1)(E:T1),Q (.int (g i) s.toks) { s with toks:=s.toks+1 }->wpAny (model X.prog X.w) X.A (f (.int i t)) Q E s):
 UnR X f (rU fun i=>.int (g i)):=by
 intro pins s σ H x v Q I d h;obtain⟨i,rfl,q⟩:=h;obtain⟨t,rfl⟩:=d;exact rule i t s _ _ ⟨.int (g i),H,I.tok _,⟨_,rfl⟩,q⟩
def aFD:UnR X (unaryOp .USub) (rU fun i=>.int (-i)):=unI fun _ _ _ _ _ q=>neg_int q
end
noncomputable def aIr:V->V->Bool
 |.non,.non=>true|.non,.int _=>true|.int _,.non=>true|.non,.bl _=>true|.bl _,.non=>true|.non,.str _=>true|.str _,.non=>true
 |.int _,.int _=>true|.bl _,.bl _=>true|.str _,.str _=>true|.byt _,.byt _=>true
 |.int _,.str _=>true|.str _,.int _=>true|.bl _,.str _=>true|.str _,.bl _=>true
 |_,_=>false
def rEq:R2:=fun x y H Q=>aIr x y=true/\Q (.bl (decide (x=y))) H
def rNe:R2:=fun x y H Q=>aIr x y=true/\Q (.bl (!decide (x=y))) H
def PR:decide (V.int i=V.int j)=(i==j):=by
 rw[S0];simp
def YL:decide (V.bl i=V.bl j)=(i==j):=by
 rw[S0];simp
def OI:decide (V.str i=V.str j)=(i==j):=by
 rw[S0];simp
def RG:decide (V.byt i=V.byt j)=(i.toList==j.toList):=by
 rw[S0];cases i;cases j;simp
section
variable{X:Cx}{a b c:Ue}{ta tb tc:TE}{pos:Pos}
def cL{Q:VK}{d:Bool}(I:Inv X pins σ H s)(q:Q (.bl k) H)(e:k=d):EP X pins σ Q (.bool d) s:=by
 subst e;exact⟨.bl k,H,I,rfl,q⟩
def op_eq:OpR X (compareOp .Eq) rEq:=by
 intro pins s σ H x y v u Q I f d h;obtain⟨hs,q⟩:=h;cases x with
 |non=>
  cases f;cases y with
  |non=>cases d;exact PySem.EqNone.eq_none_none (cL I q (by simp))
  |bl j=>cases d;exact PySem.EqNone.eq_none_bool (cL I q (by simp))
  |int j=>obtain⟨e,rfl⟩:=d;exact PySem.EqNone.eq_none_int (cL I q (by simp))
  |str j=>obtain⟨e,rfl⟩:=d;exact PySem.EqNone.eq_none_str (cL I q (by simp))
  |_=>exact absurd (show false=true from hs) A7
 |bl i=>
  cases f;cases y with
  |non=>cases d;exact PySem.EqNone.eq_bool_none (cL I q (by simp))
  |bl j=>cases d;exact eq_bool (cL I q YL)
  |str j=>obtain⟨e,rfl⟩:=d;exact PySem.EqMixed.eq_bool_str (cL I q (by simp))
  |_=>exact absurd (show false=true from hs) A7
 |int i=>
  obtain⟨t,rfl⟩:=f;cases y with
  |non=>cases d;exact PySem.EqNone.eq_int_none (cL I q (by simp))
  |int j=>obtain⟨e,rfl⟩:=d;exact eq_int (cL I q PR)
  |str j=>obtain⟨e,rfl⟩:=d;exact PySem.EqMixed.eq_int_str (cL I q (by simp))
  |_=>exact absurd (show false=true from hs) A7
 |str i=>
  obtain⟨t,rfl⟩:=f;cases y with
  |non=>cases d;exact PySem.EqNone.eq_str_none (cL I q (by simp))
  |bl j=>cases d;exact PySem.EqMixed.eq_str_bool (cL I q (by simp))
  |int j=>obtain⟨e,rfl⟩:=d;exact PySem.EqMixed.eq_str_int (cL I q (by simp))
  |str j=>obtain⟨e,rfl⟩:=d;exact eq_str (cL I q OI)
  |_=>exact absurd (show false=true from hs) A7
 |byt i=>
  obtain⟨t,rfl⟩:=f;cases y with
  |byt j=>obtain⟨e,rfl⟩:=d;exact W.eq_bytes (cL I q RG)
  |_=>exact absurd (show false=true from hs) A7
 |_=>cases y<;>exact absurd (show false=true from hs) A7
def op_ne:OpR X (compareOp .NotEq) rNe:=by
 intro pins s σ H x y v u Q I f d h;obtain⟨hs,q⟩:=h;cases x with
 |non=>
  cases f;cases y with
  |non=>cases d;exact PySem.EqNone.ne_none_none (cL I q (by simp))
  |bl j=>cases d;exact PySem.EqNone.ne_none_bool (cL I q (by simp))
  |int j=>obtain⟨e,rfl⟩:=d;exact PySem.EqNone.ne_none_int (cL I q (by simp))
  |str j=>obtain⟨e,rfl⟩:=d;exact PySem.EqNone.ne_none_str (cL I q (by simp))
  |_=>exact absurd (show false=true from hs) A7
 |bl i=>
  cases f;cases y with
  |non=>cases d;exact PySem.EqNone.ne_bool_none (cL I q (by simp))
  |bl j=>cases d;exact ne_bool (cL I q (C9 not YL))
  |str j=>obtain⟨e,rfl⟩:=d;exact PySem.EqMixed.ne_bool_str (cL I q (by simp))
  |_=>exact absurd (show false=true from hs) A7
 |int i=>
  obtain⟨t,rfl⟩:=f;cases y with
  |non=>cases d;exact PySem.EqNone.ne_int_none (cL I q (by simp))
  |int j=>obtain⟨e,rfl⟩:=d;exact ne_int (cL I q (C9 not PR))
  |str j=>obtain⟨e,rfl⟩:=d;exact PySem.EqMixed.ne_int_str (cL I q (by simp))
  |_=>exact absurd (show false=true from hs) A7
 |str i=>
  obtain⟨t,rfl⟩:=f;cases y with
  |non=>cases d;exact PySem.EqNone.ne_str_none (cL I q (by simp))
  |bl j=>cases d;exact PySem.EqMixed.ne_str_bool (cL I q (by simp))
  |int j=>obtain⟨e,rfl⟩:=d;exact PySem.EqMixed.ne_str_int (cL I q (by simp))
  |str j=>obtain⟨e,rfl⟩:=d;exact ne_str (cL I q (C9 not OI))
  |_=>exact absurd (show false=true from hs) A7
 |byt i=>
  obtain⟨t,rfl⟩:=f;cases y with
  |byt j=>obtain⟨e,rfl⟩:=d;exact W.ne_bytes (cL I q (C9 not RG))
  |_=>exact absurd (show false=true from hs) A7
 |_=>cases y<;>exact absurd (show false=true from hs) A7
def op_lt:OpR X (compareOp .Lt) (rI0 fun i j=>.bl (decide (i<j))):=aDA fun _ _ _ _ _ _ _ q=>lt_int q
def aHB:OpR X (compareOp .LtE) (rI0 fun i j=>.bl (decide (i<=j))):=aDA fun _ _ _ _ _ _ _ q=>le_int q
def aHX:OpR X (compareOp .Gt) (rI0 fun i j=>.bl (decide (j<i))):=aDA fun _ _ _ _ _ _ _ q=>gt_int q
def aIf:OpR X (compareOp .GtE) (rI0 fun i j=>.bl (decide (j<=i))):=aDA fun _ _ _ _ _ _ _ q=>ge_int q
def OpR.or(h:OpR X f r)(h':OpR X f d):OpR X f (fun x y H Q=>r x y H Q\/d x y H Q):=by
 intro pins s σ H x y v u Q I e g q;rcases q with q|q
 .exact h pins s σ H x y v u Q I e g q
 .exact h' pins s σ H x y v u Q I e g q
def aDd(d:OpR X (compareOp op) r)(ha:PE X a ta)(e:PE X b tb)(hm:behindInMarks op b=false):PE X (.Compare a [op] [b] pos) (tOp r ta tb):=by
 intro pins s σ H Q I h;exact wpAny_Compare1 (aGZ ha e I h fun v u s2 x y f g i j q=>d pins s2 σ f x y v u Q g i j q) hm
noncomputable def aEa(t:TE):TT:=fun σ H Q=>t σ H fun x H'=>∃k,x=.bl k/\Q k H'
def aCh{op:CmpOp}{r:R2}(d:OpR X (compareOp op) r)(ha:PE X a ta)(f:PE X b tb)(hm:behindInMarks op b=false):PT X (.Compare a [op] [b] pos) (aEa (tOp r ta tb)):=by
 intro pins s σ H Q I h
 refine wpAny_isTrue_Compare1 (thn (ha pins s σ H _ I h) fun v s1 ⟨x,g,i,j,l⟩=>thn (f pins s1 σ g _ i l) fun u s2 ⟨y,m,n,o,p⟩=>
  thn (d pins s2 σ m x y v u _ n j o p) fun c C ⟨z,q,t,w,k,e,B⟩=>?_) hm
 subst e;cases w;exact Y2 ⟨q,t,B⟩
noncomputable def WS(r e:R2)(ta tb tc:TE):TE:=fun σ H Q=>ta σ H fun x f=>tb σ f fun y g=>r x y g fun z d=>∃k,z=.bl k /\
 (if k=true then tc σ d fun h i=>e y h i Q else Q (.bl false) d)
def ZV{op f:CmpOp}{r i:R2}(o:OpR X (compareOp op) r)(g:OpR X (compareOp f) i)(ha:PE X a ta)(p:PE X b tb)(q:PE X c tc)
 (hm:lastMarks [op,f] [b,c]=false:=by with_unfolding_all rfl):PE X (.Compare a [op,f] [b,c] pos) (WS r i ta tb tc):=by
 intro pins s σ H Q I h
 refine Compare_chain (thn (ha pins s σ H _ I h) fun v s1 ⟨x,t,w,B,C⟩=>chain_link (thn (p pins s1 σ t _ w C) fun u s2 ⟨y,D,E,j,F⟩=>
  thn (o pins s2 σ D x y v u _ E B j F) fun d G ⟨z,l,m,J,k,e,n⟩=>?_)) hm
 subst e;cases J;refine Y2 ?_;cases k with
 |false=>exact ite_ff ⟨.bl false,l,m,rfl,n⟩
 |true=>exact ite_tt (chain_last (thn (q pins G σ l _ m n) fun L M ⟨N,O,P,R,S⟩=>g pins M σ O y N u L Q P j R S))
def aDg(K:Fg)(x:V)(H:Hp)(k:Bool):Prop:=
 match x with
 |.non=>k=false
 |.bl b=>k=b
 |.int i=>k=(i != 0)
 |.str y=>y.length<=sizeLine/\k=((y.length:Int) != 0)
 |.byt y=>y.size<=sizeLine/\k=((y.size:Int) != 0)
 |.ref p=>(∃xs,SqL K H p xs/\k=!xs.isEmpty)\/(∃xs,SqT K H p xs/\k=!xs.isEmpty)\/∃kvs,H p=Z (.dK kvs)/\k=!kvs.isEmpty
 |_=>False
def NI{d:Type}{kvs:Tx (d×V)}{vs:Tx (d×Ua)}(r:KV kvs vs):(!vs.isEmpty)=!kvs.isEmpty:=by
 cases r<;>rfl
def yX(r:bH xs d):(!d.toArray.isEmpty)=!xs.isEmpty:=by
 cases r<;>simp
def vX:(sizeLine:Nat)<2 ^ 63:=by rw[S7];decide
def aFE:aJl X (fun x H Q=>∃k,aDg X.K x H k/\Q k H):=by
 intro pins s σ H x v Q I g h;obtain⟨k,e,q⟩:=h;have z:=vX;have hs:sizeLine=16777216:=S7;cases x with
 |non=>
  cases g;have d:k=false:=e;subst d;exact truthy_none ⟨H,I,q⟩
 |bl b=>
  cases g;have d:k=b:=e;subst d;exact Y2 ⟨H,I,q⟩
 |int i=>
  obtain⟨t,rfl⟩:=g;have d:k=(i != 0):=e;subst d;exact PySem.P.truthy_int ⟨H,I,q⟩
 |str y=>
  obtain⟨t,rfl⟩:=g;obtain⟨u,d⟩:y.length<=sizeLine/\k=((y.length:Int) != 0):=e;subst d;exact PySem.P.truthy_str (by omega) ⟨H,I.tok _,q⟩
 |byt y=>
  obtain⟨t,rfl⟩:=g;obtain⟨u,d⟩:y.size<=sizeLine/\k=((y.size:Int) != 0):=e;subst d;exact W.truthy_bytes (by omega) ⟨H,I.tok _,q⟩
 |ref p=>
  cases g;have d:(∃xs,SqL X.K H p xs/\k=!xs.isEmpty)\/(∃xs,SqT X.K H p xs/\k=!xs.isEmpty)\/∃kvs,H p=Z (.dK kvs)/\k=!kvs.isEmpty:=e;rcases d with⟨xs,j,d⟩|⟨xs,j,d⟩|⟨kvs,j,d⟩
  .subst d;obtain⟨l,r,n,o⟩:=I.list j;have f:=r.length;exact wpAny_truthy_list n.isList (by simp only[List.size_toArray];omega) ⟨H,I.tok _,by rw[yX r];exact q⟩
  .subst d;obtain⟨l,r,n,o⟩:=I.tuple j;have f:=r.length;exact truthy_tuple n (by simp only[List.size_toArray];omega) ⟨H,I.tok _,by rw[yX r];exact q⟩
  .subst d;obtain⟨o,hS,vs,r,m⟩:kvs.length<=sizeLine/\(p==sysModules)=false/\∃vs,KV kvs vs/\s.heap.DictOf (uS X.prog X.w) p vs:=I.hok p _ j;have f:kvs.length=vs.length:=Paired.length r;exact wpAny_truthy_dict hS m (by omega) ⟨H,I.tok _,by rw[NI r];exact q⟩
 |_=>exact(show False from e).elim
def YE(ha:PE X a ta)(e:∀d,isTrue a X.env d=(do let v <- d;standAt a.pos;holding [v] (truthy v))):
 PT X a (fun σ H Q=>ta σ H fun x H'=>∃k,aDg X.K x H' k/\Q k H'):=by
 intro pins s σ H Q I h;exact isTrue_plain (thn (ha pins s σ H _ I h) fun v s1 ⟨x,f,g,i,j⟩=>aFE pins s1 σ f x v Q g i j) (e _)
def vals1{x:V}{us:T7}(r:bH [x] us):∃u,us=[u]/\RelV x u:=by
 cases r with
 |cons d e=>cases e;exact⟨_,rfl,d⟩
def vals2{x y:V}{us:T7}(r:bH [x,y] us):∃u d,us=[u,d]/\RelV x u/\RelV y d:=by
 cases r with
 |cons e f=>
  cases f with
  |cons g h=>cases h;exact⟨_,_,rfl,e,g⟩
end
structure eJ(k:Nat)(A:Ug)(q:Bool:=true):Prop where
 hd:q=true->A.handled=Y
 dp:A.depth+3*k+5<recursionLimit
 un:A.units+16*k+200<cLine
 gd:A.guards=Z []
def eJ.mono{j:Nat}(r:eJ k A q)(h:j<=k):eJ j A q:=⟨r.hd,by have:=r.dp;omega,by have:=r.un;omega,r.gd⟩
def eJ.deeper{k:Nat}(r:eJ (k+1) A q)(env:Env):eJ k (A.deeper env) q:=
 ⟨r.hd,by have:=r.dp;show A.depth+1+3*k+5<_;omega,by have:=r.un;show A.units+3+16*k+200<_;omega,r.gd⟩
def eJ.depth(r:eJ k A q):A.depth<recursionLimit:=by have:=r.dp;omega
def eJ.units(r:eJ k A q):A.units+64<cLine:=by have:=r.un;omega
noncomputable def SZ:TA:=fun _ H Q=>Q [] H
noncomputable def sN(a:TE)(tr:TA):TA:=fun σ H Q=>a σ H fun x b=>tr σ b fun xs c=>Q (x::xs) c
section
variable{X:Cx}{e:Ue}{es:Ta}{te:TE}{t:TA}{pos:Pos}
def AA:PA X [] SZ:=fun _ _ _ _ H Q I h=>Calls.spliced_nil ⟨[],H,I,.nil,h⟩
def kW(ha:PE X e te)(a:PA X es t)(hs:starEach (e::es) X.env=(false,eval e X.env)::starEach es X.env:=by rfl):PA X (e::es) (sN te t):=by
 intro pos pins s σ H Q I h;rw[hs];show wpAny _ _ (spliced ((false,eval e X.env)::backTo pos (starEach es X.env))) _ _ s;refine Calls.spliced_cons (thn (ha pins s σ H _ I h) fun u s1 ⟨x,b,c,d,f⟩=>?_);exact thn (a pos pins s1 σ b _ c f) fun us s2 ⟨xs,g,i,j,k⟩=>⟨x::xs,g,i,.cons d j,k⟩
def aGe(t:TA):TE:=fun σ H Q=>t σ H fun xs a=>xs.length<=sizeLine/\∀p,a p=Y->Q (.ref p) (upd a p (.tup xs))
def aEI(t:TA):TE:=fun σ H Q=>t σ H fun xs a=>xs.length<=sizeLine/\∀p,a p=Y->Q (.ref p) (upd a p (.lst xs))
def WR{x1}(h:PA X es t):PE X (.Tuple es x1 pos) (aGe t):=by
 intro pins s σ H Q I d;refine wpAny_Tuple_spliced (thn (h pos pins s σ H _ I d) fun us s1 ⟨xs,a,c,r,z,q⟩=>⟨by rw[<- r.length];exact z,?_⟩);have f:a s1.heap.objs.size=Y:=c.hok.fresh (B4 _);refine⟨.ref s1.heap.objs.size,upd a s1.heap.objs.size (.tup xs),c.laid (t':=s1.toks) (fun b u e=>A3 _ e) (B4 _) ?_,rfl,q _ f⟩;exact⟨z,us,r,⟨_,C6 _ rfl,rfl,_,rfl⟩⟩
def aAJ(h:PA X es t):PE X (.List es pos) (aEI t):=by
 intro pins s σ H Q I d;refine wpAny_List_spliced (thn (h pos pins s σ H _ I d) fun us s1 ⟨xs,a,c,r,z,q⟩=>⟨by rw[<- r.length];exact z,?_⟩);have f:a s1.heap.objs.size=Y:=c.hok.fresh (B4 _);refine⟨.ref s1.heap.objs.size,upd a s1.heap.objs.size (.lst xs),c.laid (t':=s1.toks) (fun b u e=>A3 _ e) (B4 _) ?_,rfl,q _ f⟩;exact⟨z,us,0,r,C6 _ rfl⟩
end
abbrev Sp:=Tf->Hp->VK->XK->Prop
abbrev CXT:=List Env->Hp->Shared->XK->Value->Shared->Prop
structure YB(P:Uf)(w:World)(K:Fg)(mg:Str->Ti)(base:Heap)(A:Ug)(outer:Tx Env)(s:Uc)(H:Hp):Prop where
 frames:A.frames=Z outer
 mod:Mod K mg base
 bs:∀b o,base.get? b=Z o->s.heap.get? b=Z o/\H b=Y
 bsz:base.objs.size<=s.heap.objs.size
 funs:s.heap.FunFrames base outer
 frf:∀b∈frs outer,H b=Y
 hok:HOk P w H s.heap
 bare:AllBare s.gens
def CE(outer:Tx Env)(P:Uf)(w:World)(H:Hp)(s:Uc)(Q:VK)(u:Ua)(a:Uc):Prop:=
 ∃v H',a.os=s.os/\AllBare a.gens/\Un (frs outer) [] H H' s.heap a.heap/\HOk P w H' a.heap/\RelV v u/\Q v H'
def CR(CX:CXT)(outer:Tx Env)(P:Uf)(w:World)(H:Hp)(s:Uc)(Q:VK)(E:XK)(r:Result)(a:Uc):Prop:=
 match r with
 |.ok (.ret u)=>CE outer P w H s Q u a
 |.ok _=>False
 |.error e=>CX outer H s E e a
structure mY(P:Uf)(w:World)(K:Fg)(mg:Str->Ti)(base:Heap)(CX:CXT)(k:Nat)(f:Ud)(fd:FuncData)(ps:Te)(sp:Sp)(q:Bool:=true):Prop where
 len:∀vs H Q E,sp vs H Q E->vs.length=ps.length
 run:∀(A:Ug)(outer:Tx Env)(s:Uc)(H:Hp)(args:Args)(us:T7)(vs:Tf)(Q:VK)(E:XK),eJ k A q->YB P w K mg base A outer s H->BindsTo s fd args (ps.zip us)->bH vs us->sp vs H Q E->
  codeAny (model P w) A (.call (.ref f) args) (CR CX outer P w H s Q E) s
def mY.mono{P:Uf}{k:Nat}(F:mY P w K mg base CX j f fd ps sp q)(h:j<=k):
 mY P w K mg base CX k f fd ps sp q:=⟨F.len,fun A outer s H args us vs Q E a=>F.run A outer s H args us vs Q E (a.mono h)⟩
section
variable{X:Cx}{pins:T2}{σ:St}{H:Hp}{s s':Uc}
def Inv.env0(I:Inv X pins σ H s):YB X.prog X.w X.K X.mg X.base X.A X.stack s H:=
 ⟨I.ok.frames,I.ok.mod,I.bs,O7 I.ok.bsz I.sz,I.stack,I.stkFree,I.hok,I.bare⟩
def Inv.after(I:Inv X pins σ H s)(h:CE X.stack X.prog X.w H s Q u s'):EP X pins σ Q u s':=by
 obtain⟨v,H',os,bare,un,hok,r,q⟩:=h;obtain⟨c,g,d,t,a⟩:=s';obtain rfl:a=s.os:=os;exact⟨v,H',I.call (h':=c) (g':=g) (d':=d) (t':=t) (ch:=[]) un hok bare (fun b z=>absurd z (by simp)),r,q⟩
end
noncomputable def XB(sp:Sp)(dvs:Tf)(E:XK)(t:TA):TE:=fun σ H Q=>t σ H fun vs a=>sp (vs++dvs) a Q E
def Binds(K:Fg)(fd:FuncData)(ps:Te)(ds:T7):Prop:=
 ∀(s:Uc)(us:T7),K.In s.heap->(us++ds).length=ps.length->BindsTo s fd ⟨us,[]⟩ (ps.zip (us++ds))
def Binds.all{ps:Te}(h:∀us:T7,us.length=ps.length->bindArgs fd ⟨us,[]⟩=pure (ps.zip us)):Binds K fd ps []:=fun s us _ a=>by
 rw[D8]at a ⊢;exact .of_eq (h us a)
def MN(CX:CXT)(X:Cx)(E:XK):Prop:=∀(pins:T2)(σ:St)(H:Hp)(s:Uc)(e:Ua)(a:Uc),Inv X pins σ H s->CX X.stack H s E e a->X.xe e a
section
variable{X:Cx}{CX:CXT}{k:Nat}{f C:Ud}{fd:FuncData}{ps:Te}{sp:Sp}{dvs:Tf}{ds:T7}{E:XK}{x m:Str}{p pos apos:Pos}{e o:Ue}{es:Ta}{ta:TE}{t:TA}
def aHx{σ:St}{H:Hp}{s:Uc}{vs:Tf}(F:mY X.prog X.w X.K X.mg X.base CX k f fd ps sp q)(c:eJ k X.A q)(d:Binds X.K fd ps ds)(hd:bH dvs ds)(g:MN CX X E)
 (I:Inv X pins σ H s) (r:bH vs us) (h:sp (vs++dvs) H Q E):wpAny (model X.prog X.w) X.A (call (.ref f) us) (EP X pins σ Q) X.xe s:=by
 have b:bH (vs++dvs) (us++ds):=r.append hd;have i:(us++ds).length=ps.length:=by rw[<- b.length];exact F.len _ _ _ _ h
 refine wpAny_call (A1c (F.run X.A X.stack s H ⟨us,[]⟩ (us++ds) (vs++dvs) Q E c I.env0 (d s us I.kIn i) b h) fun r j a=>?_);cases r with
 |error e=>exact g pins σ H s e j I a
 |ok l=>
  cases l with
  |ret u=>exact I.after a
  |next=>exact False.elim a
  |brk=>exact False.elim a
  |cont=>exact False.elim a
def OK{q:Bool}(F:mY X.prog X.w X.K X.mg X.base CX k f fd ps sp q)(d:eJ k X.A q)(g:Gl X x)(hm:X.mg x=Z (.ref f))(i:W.keepIn X.K (.ref f)=true)(j:Binds X.K fd ps ds)(hd:bH dvs ds)(l:MN CX X E)
 (ha:PA X (e::es) t) (a:(x==("__debug__":Str))=false:=by decide) (n:starEach (e::es) X.env=(false,eval e X.env)::starEach es X.env:=by rfl) (b:(backTo pos (starEach es X.env)).any (·.1)=false:=by rfl):
 PE X (.Call (.Name x p) (e::es) [] pos) (XB sp dvs E t):=by
 intro pins s σ H Q I h;refine Y8 (vK I g hm ?_ a);refine W.callWith_K (h₀:=X.base) I.ok.mod.kin i (thn (ha pos pins s σ H _ I h) fun us s1 ⟨vs,u,c,r,q⟩=>⟨c.kIn,?_⟩) n b;exact aHx F d j hd l c r q
end
structure bC(N P:Te)(sc:Scope):Prop where
 kind:sc.kind=.function
 co:sc.isCoroutine=false
 gen:sc.isGenerator=false
 nd:N.Nodup
 pre:N.take P.length=P
 par:∀x∈P,sc.names.lookup x=Z .local\/sc.names.lookup x=Z .cell
 nofree:∀y∈sc.names,y.2≠.free
def DG{kindOf:Tu}{x:Str}:∀{binds:Tv}{m:Str->Ti},(∀v,(x,v)∉binds)->bindL kindOf binds m x=m x
 |[],_=>fun _=>rfl
 |(n,v)::r,m=>fun h=>by
  unfold bindL;rw[DG fun w a=>h w (B0 _ a)];split
  .have:x≠n:=by rintro rfl;exact h v A9
   simp[this]
  .rfl
def DU{kindOf:Tu}{x:Str}:∀{binds:Tv}{m:Str->Ti},(∀v,(x,v)∉binds)->bindC kindOf binds m x=m x
 |[],_=>fun _=>rfl
 |(n,v)::r,m=>fun h=>by
  unfold bindC;rw[DU fun w a=>h w (B0 _ a)];split
  .rfl
  .have:x≠n:=by rintro rfl;exact h v A9
   simp[this]
def CP{kindOf:Tu}{x:Str}{v:Ua}:∀{P:Te}{vs:T7}{i:Nat}{m:Str->Ti},P.Nodup->P[i]?=Z x->vs[i]?=Z v->kindOf x=Z .local->
 bindL kindOf (P.zip vs) m x=Z v
 |[],_,_,_=>fun _ h _ _=>by simp at h
 |_::_,[],_,_=>fun _ _ h _=>by simp at h
 |p::P,w::vs,0,m=>fun nd a b c=>by
  simp at a b;subst a;subst b;show bindL kindOf ((p,w)::P.zip vs) m p=_;unfold bindL;rw[DG fun v d=>(List.nodup_cons.mp nd).1 (List.of_mem_zip d).1,A4 c];simp
 |p::P,w::vs,i+1,m=>fun nd a b c=>by
  show bindL kindOf ((p,w)::P.zip vs) m x=_;unfold bindL;exact CP (i:=i) (List.nodup_cons.mp nd).2 (by simpa using a) (by simpa using b) c
def DS{kindOf:Tu}{x:Str}{v:Ua}:∀{P:Te}{vs:T7}{i:Nat}{m:Str->Ti},P.Nodup->P[i]?=Z x->vs[i]?=Z v->kindOf x≠Z .local->
 bindC kindOf (P.zip vs) m x=Z v
 |[],_,_,_=>fun _ h _ _=>by simp at h
 |_::_,[],_,_=>fun _ _ h _=>by simp at h
 |p::P,w::vs,0,m=>fun nd a b c=>by
  simp at a b;subst a;subst b;show bindC kindOf ((p,w)::P.zip vs) m p=_;unfold bindC;rw[DU fun v d=>(List.nodup_cons.mp nd).1 (List.of_mem_zip d).1,B2 c];simp
 |p::P,w::vs,i+1,m=>fun nd a b c=>by
  show bindC kindOf ((p,w)::P.zip vs) m x=_;unfold bindC;exact DS (i:=i) (List.nodup_cons.mp nd).2 (by simpa using a) (by simpa using b) c
def start(N:Te)(vs:Tf):St:=vs.map Z++List.replicate (N.length-vs.length) Y
noncomputable def nZ(CX:CXT)(P:Uf)(w:World)(K:Fg)(mg:Str->Ti)(base:Heap)(N:Te)(qual:Str)(scope:Scope)(f:Ud)(cd:Ua)(A:Ug)(outer:Tx Env)(s:Uc)(H:Hp)(E:XK)(q:Bool:=true):Cx where
 prog:=P
 w:=w
 K:=K
 mg:=mg
 base:=base
 A:=A.deeper (envOfC qual scope s.heap.objs.size f cd)
 N:=N
 s₀:=s
 H₀:=H
 env:=envOfC qual scope s.heap.objs.size f cd
 outer:=outer
 stack:=envOfC qual scope s.heap.objs.size f cd::outer
 ex:=[]
 calm:=q
 fn:=fun _=>true
 pn:=[]
 xe:=fun e s'=>wpAny (model P w) (A.deeper (envOfC qual scope s.heap.objs.size f cd)) (leaving (envOfC qual scope s.heap.objs.size f cd) e) (fun _ s''=>CX outer H s E e s'') (fun e' s''=>CX outer H s E e' s'') s'
def IP{sc:Scope}(h:sc.names.lookup x=Z .cell):∃c,(cellsFrom n sc.names []).lookup x=Z c:=by
 have q:=W.cellsFrom_some sc.names n [] (.inl h);exact Option.isSome_iff_exists.mp q
def TQ{P:Uf}{K:Fg}{A:Ug}{s s1:Uc}{H:Hp}{vs:Tf}{q:Bool}
 (S:bC N ps scope) (hd:q=true->A.handled=Y) (g:YB P w K mg base A outer s H) (G:vs.length=ps.length) (r:bH vs us)
 (x:InCallC s s.heap.objs.size (bindL (envOfC qual scope s.heap.objs.size f o).kindOf (ps.zip us) fun _=>Y) (cellsFrom (s.heap.objs.size+1) scope.names []) (bindC (envOfC qual scope s.heap.objs.size f o).kindOf (ps.zip us) fun _=>Y) s1):
 Inv (nZ CX P w K mg base N qual scope f o A outer s H E q) [] (start N vs) H s1:=by
 have D:ps.length<=N.length:=by have:=C9 List.length S.pre;rw[Y3]at this;omega
 obtain⟨t,I,rfl,B⟩:=x.done;have j:∀b:Ud,b∉(nZ CX P w K mg base N qual scope f o A outer s H E q).ex:=fun b z=>absurd (show b∈([]:Td)from z) (by simp)
 refine⟨⟨g.mod,S.kind,rfl,rfl,B4 _,fun y z c t d=>?_,fun y hy=>?_,fun y c _ h=>?_,hd,Around.frames_deeper g.frames,.inr ⟨rfl,rfl⟩,fun b z=>absurd z (j b),g.bs,g.bsz,fun b _ _=>j b,fun b z=>absurd z (j b),g.funs,g.frf⟩,
  rfl,g.bare,Un.kept B,⟨_,x.toInCall.ns,fun i y v t d J=>?_⟩,fun y c h=>⟨_,x.cell y c h⟩,g.hok.fresh (B4 _),fun y c h=>?_,fun p l=>absurd (show p∈([]:T2)from l) (by simp),g.hok.kept B,?_⟩
 .exact name_of_addr x.apart (L9 t) (L9 d)
 .have hy:scope.names.lookup y=Z .cell\/scope.names.lookup y=Z .free:=hy;rcases hy with hy|hy
  .exact IP hy
  .exact absurd rfl (S.nofree _ (L9 hy))
 .exact A1j (x.above y c (L9 h))
 .have hi:i<vs.length:=by
   unfold start at d;by_cases hi:i<vs.length
   .exact hi
   .rw[F5 (by simpa using hi)]at d;rw[List.getElem?_replicate]at d;split at d<;>cases d
  have ha:vs[i]?=Z v:=by
   unfold start at d;rw[E6 (by simpa using hi),D6]at d;cases e:vs[i]? with
   |none=>rw[e]at d;cases d
   |some a=>rw[e]at d;cases d;rfl
  obtain⟨u,C,F⟩:=r.get ha
  have l:ps[i]?=Z y:=by
   rw[<- S.pre,List.getElem?_take_of_lt (by omega)];exact t
  have m:ps.Nodup:=by rw[<- S.pre];exact S.nd.sublist (List.take_sublist _ _)
  refine⟨u,F,?_⟩;rcases S.par y (Y9 l)with k|k
  .exact .inl ⟨k,CP m l C k⟩
  .obtain⟨c,e⟩:=IP (n:=s.heap.objs.size+1) k;refine .inr ⟨.inl k,c,e,?_⟩;have q:=x.cell y c e;rw[DS m l C (by show scope.names.lookup y≠_;rw[k];decide)]at q;exact q
 .exact g.hok.fresh (A1j (x.above y c (L9 h)))
 .unfold start;show _=N.length;rw[A6,A0,Y4];omega
def VD{P:Uf}{K:Fg}{params:Arguments}{kV doc oc:Ua}{od:Tk}
 {osl:Array (Ti)} {sp:Sp} {q:Bool} (lk:K.lookup f=Z ⟨oc,od,.func (W.fnOf name qual params a scope C kV doc pm an cdv ct),osl⟩) (l:W.codeIn K cdv qual=true) (S:bC N ps scope)
 (len:∀vs H Q E,sp vs H Q E->vs.length=ps.length)
 (d:∀(A:Ug)(outer:Tx Env)(s:Uc)(H:Hp)(vs:Tf)(Q:VK)(E:XK),eJ k (A.deeper (envOfC qual scope s.heap.objs.size f cdv)) q->sp vs H Q E->
  ∃t,PSs (nZ CX P w K mg base N qual scope f cdv A outer s H E q) a t/\t { nx:=fun _ H'=>Q .non H',rt:=Q } (start N vs) H):
 mY P w K mg base CX (k+1) f (W.fnOf name qual params a scope C kV doc pm an cdv ct) ps sp q:=by
 refine⟨len,fun A outer s H args us vs Q E m h D r i=>?_⟩;have F:=len _ _ _ _ i;have KX:K.In s.heap:=h.mod.kin.keeps fun b o e=>(h.bs b o e).1;have p:s.heap.NoLimit:=h.mod.nolimit.keeps fun b o e=>(h.bs b o e).1
 have g:∀y∈ps.zip us,scope.names.lookup y.1=Z .local\/(scope.names.lookup y.1=Z .cell/\((cellsFrom (s.heap.objs.size+1) scope.names []).lookup y.1).isSome=true):=fun⟨n,v⟩ G=>by
  rcases S.par n (List.of_mem_zip G).1 with q|q
  .exact .inl q
  .exact .inr ⟨q,W.cellsFrom_some _ _ _ (.inl q)⟩
 refine codeAny_call_function m.depth (KX _ _ lk) rfl S.co S.gen rfl (W.codeRec_of KX l) (D _ _ _ _ ?_);refine wpAny_newFunctionEnv_cells S.kind g fun env L s1 x=>?_;subst L;refine⟨p.keeps x.toInCall.keep,codeAny_func ?_⟩;obtain⟨t,ht,M⟩:=d A outer s H vs Q E (m.deeper _) i;have I:Inv (nZ CX P w K mg base N qual scope f cdv A outer s H E q) [] (start N vs) H s1:=TQ S m.hd h F r x;refine F8 (ht [] s1 (start N vs) H _ I M) (fun O z hs=>?_) fun e z hs=>hs
 have j:∀{c:St}{H':Hp}{v:V}{u:Ua},Inv (nZ CX P w K mg base N qual scope f cdv A outer s H E q) [] c H' z->RelV v u->Q v H'->CE outer P w H s Q u z:=
  fun{c H' v u} J B q=>⟨v,H',J.os,J.bare,J.base,J.hok,B,q⟩
 cases O with
 |ret u=>
  obtain⟨v,c,H',J,B,q⟩:=hs;exact j J B q
 |next=>
  obtain⟨c,H',J,q⟩:=hs;exact j (v:=V.non) (u:=Value.none) J rfl q
 |brk=>
  obtain⟨_,_,_,q⟩:=hs;exact False.elim q
 |cont=>
  obtain⟨_,_,_,q⟩:=hs;exact False.elim q
section
variable{X:Cx}{x:Str}{p pos:Pos}{e:Ue}{es:Ta}{t:TA}{id T:String}{r:Tf->Hp->VK->Prop}
noncomputable def tCB(r:Tf->Hp->VK->Prop)(t:TA):TE:=fun σ H Q=>t σ H fun vs a=>r vs a Q
def vH(c:dM X (.builtin id) r)(d:Gl X x)(hm:X.mg x=Y)(f:bootBuiltins x=Z (.builtin id))(ha:PA X (e::es) t)(hn:x≠"__name__":=by decide)(a:(x==("__debug__":Str))=false:=by decide)
 (g:starEach (e::es) X.env=(false,eval e X.env)::starEach es X.env:=by rfl) (b:(backTo pos (starEach es X.env)).any (·.1)=false:=by rfl):PE X (.Call (.Name x p) (e::es) [] pos) (tCB r t):=by
 intro pins s σ H Q I h;refine Y8 (jD I d hm f ?_ hn a);exact PyProof.Rows.callWith_builtin1 (thn (ha pos pins s σ H _ I h) fun us s1 ⟨vs,i,j,k,l⟩=>c pins s1 σ i vs us Q j k l) g b
def UI(c:dM X (.type T) r)(d:Gl X x)(hm:X.mg x=Y)(f:bootBuiltins x=Z (.type T))(ha:PA X (e::es) t)(hn:x≠"__name__":=by decide)(a:(x==("__debug__":Str))=false:=by decide)
 (g:starEach (e::es) X.env=(false,eval e X.env)::starEach es X.env:=by rfl) (b:(backTo pos (starEach es X.env)).any (·.1)=false:=by rfl):PE X (.Call (.Name x p) (e::es) [] pos) (tCB r t):=by
 intro pins s σ H Q I h;refine Y8 (jD I d hm f ?_ hn a);exact J8 (thn (ha pos pins s σ H _ I h) fun us s1 ⟨vs,i,j,k,l⟩=>c pins s1 σ i vs us Q j k l) g b
end
end L2
namespace HT
open PySem PyProof.Rows
noncomputable def lexLt:T9->T9->Bool
 |[],[]=>false
 |[],_::_=>true
 |_::_,[]=>false
 |x::xs,y::a=>if x=y then lexLt xs a else decide (x<y)
def lexLt_cons(x y:Int)(xs ys:T9):lexLt (x::xs) (y::ys)=if x=y then lexLt xs ys else decide (x<y):=rfl
def BR:lexLt [] []=false:=rfl
def AE(y:Int)(ys:T9):lexLt [] (y::ys)=true:=rfl
def BD(x:Int)(xs:T9):lexLt (x::xs) []=false:=rfl
def YV(A:Ug)(s:Uc)(a:Int)(t:Tok)(c:Int)(u:Tok):∃e,SeqAt.EqAt A s (.int a t) (.int c u) e/\(e=true↔a=c):=
 ⟨(a==c),SeqAt.EqAt.int_int a t c u,by simp⟩
def rcLt_int(A:Ug)(s:Uc)(a:Int)(t:Tok)(c:Int)(u:Tok)(prog:Uf)(w:World)(E:T1)(Q:T1)(h:Q (.bool (decide (a<c))) s):
 wpAny (model prog w) A (richCompare .Lt (.int a t) (.int c u)) Q E s:=
 (PyProof.Rows.lt_int h:wpAny (model prog w) A (compareOp .Lt (.int a t) (.int c u)) Q E s)
section
open PySem.SeqAt
open PySem.AutoSeq1 (wpAny_loadPart')
open PySem.MeetsSeq PySem.MeetsSeq2 PySem.MeetsSeq3
def BY(l b:Ud)(i f:Tl)(n n2:Nat)(dd H:Tk)(sl I:Array (Ti))(ns ms:T9)(hi:IntsAre i.toList ns)(M:IntsAre f.toList ms):
 Meets (Builtin.«tuple.__lt__» ⟨[.ref l,.ref b],[]⟩)
  (fun _ R s=>s.heap.get? l=Z { cls:=.type "tuple",dict:=dd,data:=.seq i n,slots:=sl }/\s.heap.get? b=Z { cls:=.type "tuple",dict:=H,data:=.seq f n2,slots:=I } /\
   R (.ok (.ret (.bool (lexLt ns ms)))) s):=
 .of_wp fun prog w A R s h=>by
  obtain⟨F,g,d,G,os⟩:=s;obtain⟨O,P,h⟩:=h;have V:=AutoSeq1.sub_tuple_tuple;have W:i.size=ns.length:=by rw[<- hi.length];simp
  have X:f.size=ms.length:=by rw[<- M.length];simp
  wp_walk using Z1 O,Z1 P,wpAny_forIn_list _ (fun rest b J=>b.1=Y/\J=⟨F,g,d,G,os⟩/\∃(vs ws:T7)(k m:T9),rest=vs.zip ws /\
   IntsAre vs k/\IntsAre ws m/\k.length+f.size=m.length+i.size/\R (.ok (.ret (.bool (lexLt k m)))) ⟨F,g,d,G,os⟩) _
  case turn=>
   rintro⟨y,x⟩ rest b J ⟨z,rfl,vs,ws,k,m,o,B,p,j,r⟩;cases B with
   |nil=>rw[List.zip_nil_left]at o;cases o
   |cons a t D=>
    cases p with
    |nil=>rw[List.zip_nil_right]at o;cases o
    |cons c u E=>
     rw[A0r]at o;injection o with K C
     injection K with Q S
     subst Q S;rw[lexLt_cons]at r;simp only[List.length_cons]at j;obtain⟨e,T,v⟩:=YV A.in1 ⟨F,g,d,G,os⟩ a t c u;refine A1 (T prog w _ _ ?_);cases e with
     |true=>
      rw[A4 (v.mp rfl)]at r
      wp_walk
      exact⟨rfl,rfl,_,_,_,_,C,D,E,by omega,r⟩
     |false=>
      rw[B2 (fun q=>absurd (v.mpr q) A7)]at r;have L:=rcLt_int A.in1 ⟨F,g,d,G,os⟩ a t c u prog w
      wp_walk using L
      exact⟨_,rfl,by simpa using r⟩
  case fin=>
   rintro⟨b1,b2⟩ J ⟨z,rfl,vs,ws,k,m,o,B,p,j,r⟩;simp only at z;subst z
   have N:lexLt k m=decide (i.size<f.size):=by
    cases B with
    |nil=>
     cases p with
     |nil=>
      simp only[List.length_nil]at j;rw[BR];exact(E4 (by omega)).symm
     |cons c u U=>
      simp only[List.length_nil,List.length_cons]at j;rw[AE];exact(C7 (by omega)).symm
    |cons a t N=>
     cases p with
     |nil=>
      simp only[List.length_nil,List.length_cons]at j;rw[BD];exact(E4 (by omega)).symm
     |cons c u U=>
      rw[A0r]at o;cases o
   rw[N]at r
   wp_walk
   exact⟨_,rfl,by simpa[Builtin.Tuple.tupleCompareSizes]using r⟩
  case h=>
   exact⟨rfl,rfl,i.toList,f.toList,ns,ms,rfl,hi,M,by omega,h⟩
end
section
variable{prog:Uf}{w:World}{A:Ug}{E:T1}{s:Uc}
def lt_tupInts{Q:T1}(o:IsTup s.heap l c)(p:IsTup s.heap b a)(hi:IntsAre c.toList ns)(q:IntsAre a.toList ms)
 (r:A.units<cLine) (h:Q (.bool (lexLt ns ms)) s):wpAny (model prog w) A (compareOp .Lt (.ref l) (.ref b)) Q E s:=by
 obtain⟨⟨cls,t,data,sl⟩,j,k,n,hd⟩:=id o;obtain⟨⟨m,g,data2,i⟩,d,e,n2,f⟩:=id p;simp only at k hd e f;subst k hd e f
 exact richCompare_meets_room (op:=.Lt) ⟨_,j,rfl⟩ ⟨_,d,rfl⟩ F.slot_tuple_lt F.entry_tuple_lt (F.args_tuple_lt_2 _ _) (BY l b c a n n2 t g sl i ns ms hi q)
  ⟨j,d,show Value.bool (lexLt ns ms)≠Value.notImplemented/\Q (.bool (lexLt ns ms)) s from⟨(fun x=>nomatch x),h⟩⟩ r
def cat_tup{vs ws:T7}{Q:T1}(ht:IsTup s.heap t vs.toArray)(p:IsTup s.heap b ws.toArray)(k:vs≠[])
 (q:ws=[]->Q (.ref t) s) (r:ws≠[]->Q (.ref s.heap.objs.size) { s with heap:=s.heap.push { cls:=.type "tuple",data:=.seq (vs++ws).toArray } })
 (j:vs.length+ws.length<=sizeLine):wpAny (model prog w) A (binaryOp .Add (.ref t) (.ref b)) Q E s:=by
 obtain⟨⟨cls,l,data,sl⟩,h,m,n,hd⟩:=id ht;obtain⟨⟨o,c,data2,d⟩,a,f,n2,g⟩:=id p;simp only at m hd f g;subst m hd f g;have e:vs.toArray++ws.toArray=(vs++ws).toArray:=by simp
 by_cases i:ws=[]
 .exact concat_meets ⟨_,h,rfl⟩ ⟨_,a,rfl⟩ noFill_tuple_add seq_tuple_add F.slot_tuple_add F.entry_tuple_add (F.args_tuple_add_2 _ _)
   (tuple_addW1 t b vs.toArray ws.toArray n n2 l c sl d (by simpa using k) (by simp[i])) ⟨h,a,q i⟩
 .refine concat_meets ⟨_,h,rfl⟩ ⟨_,a,rfl⟩ noFill_tuple_add seq_tuple_add F.slot_tuple_add F.entry_tuple_add (F.args_tuple_add_2 _ _)
   (tuple_addW2 t b vs.toArray ws.toArray n n2 l c sl d (by simpa using k) (by simpa using i) (by rw[C5,C5];exact j)) ⟨h,a,?_⟩
  rw[e];exact r i
def sIx(n d:Nat):To->Nat
 |none=>d
 |some v=>if v<0 then(v+(n:Int)).toNat else min v.toNat n
def sIx_none(n d:Nat):sIx n d Y=d:=rfl
def sIx_nat(n d k:Nat):sIx n d (Z (k:Int))=min k n:=by
 show(if (k:Int)<0 then((k:Int)+(n:Int)).toNat else min (k:Int).toNat n)=min k n;rw[B2 (by omega),E3]
def aFP(n d:Nat)(hd:d<=n)(o:To):sIx n d o<=n:=by
 cases o with
 |none=>exact hd
 |some v=>
  show(if v<0 then(v+(n:Int)).toNat else min v.toNat n)<=n;by_cases a:v<0
  .rw[A4 a];omega
  .rw[B2 a];exact Nat.min_le_right _ _
def NZ(v:Int)(n d:Nat):(if v<0 then max (v+(n:Int)) 0 else min v (n:Int))=((sIx n d (Z v):Nat):Int):=by
 show(if v<0 then max (v+(n:Int)) 0 else min v (n:Int))=(((if v<0 then(v+(n:Int)).toNat else min v.toNat n):Nat):Int);by_cases a:v<0
 .simp only[if_pos a];omega
 .simp only[if_neg a];omega
def LU(lo hi:To)(n:Nat):Builtin.Slice.sliceAdjust lo hi 1 (n:Int)=(((sIx n 0 lo:Nat):Int),((sIx n n hi:Nat):Int)):=by
 have a:¬((1:Int)<0):=by omega
 unfold Builtin.Slice.sliceAdjust;simp only[a,if_false];refine Prod.ext ?_ ?_
 .cases lo with
  |none=>rfl
  |some v=>exact NZ v n 0
 .cases hi with
  |none=>rfl
  |some v=>exact NZ v n n
def MU(i j:Nat):Builtin.Slice.slicePlaces (i:Int) (j:Int) 1=j-i:=by
 unfold Builtin.Slice.slicePlaces;have a:(1:Int) > 0:=by omega
 simp only[a,if_true,Int.ediv_one];split<;>omega
def tT{Q:To->Uc->Prop}(p:IsPart v o)(h:Q o s):wpAny (model prog w) A (Builtin.Slice.slicePartIndex v) Q E s:=by
 cases p with
 |none=>exact slicePart_none h
 |int i t=>exact slicePart_int h
def oE{lo:To}{n:Nat}{Q:Int×Int×Nat->Uc->Prop}(hs:s.heap.IsSliceOf sl b c .none)(d:IsPart b lo)(e:IsPart c hi)
 (h:Q (((sIx n 0 lo:Nat):Int),1,sIx n n hi-sIx n 0 lo) s):wpAny (model prog w) A (Builtin.Slice.sliceApplied (.ref sl) (pure (n:Int))) Q E s:=by
 obtain⟨os,a,f,hds⟩:=id hs;unfold Builtin.Slice.sliceApplied Builtin.Slice.sliceFields;refine A1 (A1 (J0 a hds (x:=b) rfl (A1 (J0 a hds (x:=c) rfl (A1 (J0 a hds (x:=.none) rfl (B5 ?_)))))));refine A1 (slicePart_none ?_);show wpAny _ _ (if ((1:Int)==0)=true then _ else _) _ _ s;rw[B2 (by decide)];refine A1 (tT d (A1 (tT e (A1 (B5 ?_)))));show wpAny _ _ (match Builtin.Slice.sliceAdjust lo hi 1 (n:Int)with|(lo,hi)=>pure (lo,(1:Int),Builtin.Slice.slicePlaces lo hi 1)) _ _ s;rw[LU lo hi n];show wpAny _ _ (pure (((sIx n 0 lo:Nat):Int),(1:Int),Builtin.Slice.slicePlaces ((sIx n 0 lo:Nat):Int) ((sIx n n hi:Nat):Int) 1)) _ _ s;rw[MU];exact B5 h
def ZM(xs:Tl)(i k:Nat):((List.range k).filterMap fun(m:Nat)=>xs[((i:Int)+(m:Int)*1).toNat]?).toArray=((xs.toList.drop i).take k).toArray:=by
 have e:(fun(m:Nat)=>xs[((i:Int)+(m:Int)*1).toNat]?)=fun m=>xs[i+m]?:=by
  funext m;have:((i:Int)+(m:Int)*1).toNat=i+m:=by omega
  rw[this]
 rw[e];have:=pick_run xs i k;rw[List.filterMap_map]at this;have a:((fun x=>xs[x]?) ∘ fun x=>i+x)=fun m=>xs[i+m]?:=rfl;rw[a]at this;rw[this]
def getItem_tuple_cut{lo:To}{Q:T1}(ht:IsTup s.heap t a)(hs:s.heap.IsSliceOf sl g i .none)(j:IsPart g lo)(k:IsPart i hi)
 (l:¬(sIx a.size 0 lo=0/\sIx a.size a.size hi=a.size))
 (h:Q (.ref s.heap.objs.size) { s with heap:=s.heap.push { cls:=.type "tuple",data:=.seq ((a.toList.drop (sIx a.size 0 lo)).take (sIx a.size a.size hi-sIx a.size 0 lo)).toArray } })
 (n:a.size<=sizeLine):wpAny (model prog w) A (getItem (.ref t) (.ref sl)) Q E s:=by
 have b:sizeOk (.seq ((a.toList.drop (sIx a.size 0 lo)).take (sIx a.size a.size hi-sIx a.size 0 lo)).toArray):=by
  show((a.toList.drop (sIx a.size 0 lo)).take (sIx a.size a.size hi-sIx a.size 0 lo)).toArray.size<=sizeLine;rw[C5,Y3,A0g,A1h];omega
 have o:sIx a.size a.size hi<=a.size:=aFP _ _ (B4 _) hi;obtain⟨os,c,d,hds⟩:=id hs;have e:s.TypeIs (.ref sl) "slice":=⟨os,c,d⟩;unfold getItem
 try with_reducible refine S5 ?_
 first|refine A1 (B5 ?_)|skip
 refine A1 (wpAny_sequenceKey ht.typeIs (by decide) ?_)
 refine A1 (U1 (name:=Str.ofString "__getitem__") ht.typeIs O9
  (U7 O9 ht.typeIs entry_tuple_getitem ?_ (args_tuple_getitem _ _)))
 show wpAny _ _ (Builtin.Tuple.tupleItemsOf (.ref t) >>= _) _ _ s;refine A1 (tupleItemsOf_ ht ?_);refine A1 (A1p e ?_);rw[A4 (by decide)];refine A1 (oE hs j k ?_)
 have f:¬((((sIx a.size 0 lo:Nat):Int)==0&&(1:Int)==1&&(sIx a.size a.size hi-sIx a.size 0 lo)==a.size)=true):=by
  intro q;rw[B8,B8]at q;have p:((sIx a.size 0 lo:Nat):Int)=0:=eq_of_beq q.1.1;have r:sIx a.size a.size hi-sIx a.size 0 lo=a.size:=eq_of_beq q.2;exact l ⟨by omega,by omega⟩
 show wpAny _ _ (if (((sIx a.size 0 lo:Nat):Int)==0&&(1:Int)==1&&(sIx a.size a.size hi-sIx a.size 0 lo)==a.size)=true then _ else _) _ _ s;rw[B2 f,ZM]
 first
  |exact A1 (m:=Builtin.Tuple.tupleExact _) (J7 (B5 ⟨_,rfl,B5 h⟩) b)
  |exact A1 (m:=Builtin.Tuple.tupleExact _) (J7 (A1 (B5 (B5 ⟨_,rfl,B5 h⟩))) b)
  |exact A1 (A1 (m:=Builtin.Tuple.tupleExact _) (J7 (B5 (B5 ⟨_,rfl,B5 h⟩)) b))
  |exact A1 (A1 (m:=Builtin.Tuple.tupleExact _) (J7 (B5 ⟨_,rfl,B5 h⟩) b))
end
end HT
namespace L2
variable{H:Hp}{σ:St}{s:Uc}
open PySem PySem.Spec PyProof.Rows
abbrev TO:=St->Hp->(To->Hp->Prop)->Prop
def PO(X:Cx)(e:Tz Ue)(t:TO):Prop:=
 ∀(pins:T2)(s:Uc)(σ:St)(H:Hp)(Q:To->Hp->Prop),Inv X pins σ H s->t σ H Q->
  wpAny (model X.prog X.w) X.A (evalPart e X.env) (fun u a=>∃o H',Inv X pins σ H' a/\IsPart u o/\Q o H') X.xe s
def QZ:TO:=fun _ H Q=>Q Y H
def aDR(t:TE):TO:=fun σ H Q=>t σ H fun x a=>∃i,x=.int i/\Q (Z i) a
def intsAre_of{ns:T9}:∀{us:T7},bH (ns.map V.int) us->IntsAre us ns:=by
 induction ns with
 |nil=>intro us r;rw[List.map_nil]at r;cases r;exact .nil
 |cons n ns ih=>
  intro us r;rw[B6]at r;cases r with
  |cons a b=>
   obtain⟨t,e⟩:=a;subst e;exact .cons n t (ih b)
section
variable{X:Cx}{e:Ue}{te:TE}{lo hi:Tz Ue}{tl th:TO}{pos p2:Pos}
def aCr:PO X Y QZ:=by
 intro pins s σ H Q I h;rw[evalPart_none];exact B5 ⟨Y,H,I,.none,h⟩
def aCN(h:PE X e te):PO X (Z e) (aDR te):=by
 intro pins s σ H Q I a;rw[evalPart_some];refine thn (h pins s σ H _ I a) fun u s1 ⟨x,b,c,d,f⟩=>?_;obtain⟨i,rfl,q⟩:=f;obtain⟨t,rfl⟩:=d;exact⟨Z i,b,c,.int i t,q⟩
def SlR(X:Cx)(r:V->To->To->Hp->VK->Prop):Prop:=
 ∀(pins:T2)(s:Uc)(σ:St)(H:Hp)(x:V)(v a b:Ua)(lo hi:To)(sl:Ud)(Q:VK),Inv X pins σ H s->RelV x v->s.heap.IsSliceOf sl a b .none->IsPart a lo->IsPart b hi->r x lo hi H Q->
  ∃T id,typeLookup (.type T) "__getitem__"=pure (Z (.builtin id))/\s.TypeIs v T/\wpAny (model X.prog X.w) X.A (getItem v (.ref sl)) (EP X pins σ Q) X.xe s
def SlR.or(h:SlR X r)(h':SlR X a):SlR X (fun x lo hi H Q=>r x lo hi H Q\/a x lo hi H Q):=by
 intro pins s σ H x v b c lo hi sl Q I d hs f g q;rcases q with q|q
 .exact h pins s σ H x v b c lo hi sl Q I d hs f g q
 .exact h' pins s σ H x v b c lo hi sl Q I d hs f g q
noncomputable def tSl(r:V->To->To->Hp->VK->Prop)(te:TE)(tl th:TO):TE:=fun σ H Q=>te σ H fun x a=>tl σ a fun l b=>th σ b fun u c=>r x l u c Q
def YY{r:V->To->To->Hp->VK->Prop}(g:SlR X r)(i:PE X e te)(j:PO X lo tl)(k:PO X hi th):PE X (.Subscript e (.Slice lo hi Y p2) pos) (tSl r te tl th):=by
 intro pins s σ H Q I h;refine Subscript_ (thn (i pins s σ H _ I h) fun v s1 ⟨x,m,n,o,p⟩=>?_);refine wpAny_Slice (thn (j pins s1 σ m _ n p) fun c s2 ⟨l,t,y,z,B⟩=>thn (k pins s2 σ t _ y B) fun d a ⟨u,f,C,D,E⟩=>?_);rw[evalPart_none];refine B5 ?_;have F:Inv X pins σ f { a with heap:=a.heap.push { cls:=.type "slice",data:=.fields #[c,d,.none] } }:=C.kept (t':=a.toks) fun b ob q=>A3 _ q;obtain⟨T,id,hT,ht,G⟩:=g pins { a with heap:=a.heap.push { cls:=.type "slice",data:=.fields #[c,d,.none] } } σ f x v c d l u a.heap.objs.size Q F o (Heap.IsSliceOf.new ..) z D E;show wpAny (model X.prog X.w) X.A (subscriptTail e (.Slice lo hi Y p2) v (.ref a.heap.objs.size)) (EP X pins σ Q) X.xe { a with heap:=a.heap.push { cls:=.type "slice",data:=.fields #[c,d,.none] } };exact tail_any (ops:=[.ref a.heap.objs.size,v]) ht hT G (by with_unfolding_all rfl)
def vS(xs:Tf)(lo hi:To):Tf:=(xs.drop (HT.sIx xs.length 0 lo)).take (HT.sIx xs.length xs.length hi-HT.sIx xs.length 0 lo)
def wZ(xs:Tf)(lo hi:To):(vS xs lo hi).length<=xs.length:=by
 unfold vS;rw[Y3,A0g];omega
def aIw(K:Fg):V->To->To->Hp->VK->Prop:=fun x lo hi H Q=>∃a xs,x=.ref a/\SqT K H a xs /\
 ¬(HT.sIx xs.length 0 lo=0/\HT.sIx xs.length xs.length hi=xs.length)/\∀p,H p=Y->Q (.ref p) (upd H p (.tup (vS xs lo hi)))
def sl_tup:SlR X (aIw X.K):=by
 intro pins s σ H x v m n lo hi sl Q I g hs i j h;obtain⟨a,xs,rfl,k,l,q⟩:=h;cases g;obtain⟨d,r,ht,f⟩:=I.tuple k;have c:d.toArray.size=xs.length:=by rw[C5];exact r.length.symm
 refine⟨"tuple",_,PyProof.Rows.slot_tuple_getitem.lookup,ht.typeIs,?_⟩;refine HT.getItem_tuple_cut ht hs i j (by rw[c];exact l) ?_ (by rw[c];exact f);rw[c];refine⟨.ref s.heap.objs.size,_,I.laid (t':=s.toks) (o:=.tup (vS xs lo hi)) (fun b ob q=>A3 _ q) (B4 _) ?_,rfl,q _ (I.hok.fresh (B4 _))⟩;exact⟨O7 (wZ xs lo hi) f,_,(r.drop (HT.sIx xs.length 0 lo)).take (HT.sIx xs.length xs.length hi-HT.sIx xs.length 0 lo),IsTup.new _ _⟩
def XM(K:Fg):R2:=fun x y H Q=>∃a b xs c,x=.ref a/\y=.ref b/\SqT K H a xs/\SqT K H b c/\xs≠[]/\xs.length+c.length<=sizeLine /\
 (c=[]->Q (.ref a) H)/\(c≠[]->∀p,H p=Y->Q (.ref p) (upd H p (.tup (xs++c))))
def bH.nil_iff(r:bH xs us):us=[]↔xs=[]:=by
 cases r with
 |nil=>simp
 |cons _ _=>simp
def aCg:OpR X (binaryOp .Add) (XM X.K):=by
 intro pins s σ H x y v u Q I i j h;obtain⟨a,b,xs,k,rfl,rfl,ha,l,m,f,n,p⟩:=h;cases i;cases j;obtain⟨r,d,t,_⟩:=I.tuple ha;obtain⟨g,c,p2,_⟩:=I.tuple l;refine HT.cat_tup t p2 (fun z=>m (d.nil_iff.mp z)) (fun z=>⟨.ref a,H,I,rfl,n (c.nil_iff.mp z)⟩) (fun z=>?_) (by rw[<- d.length,<- c.length];exact f);refine⟨.ref s.heap.objs.size,_,I.laid (t':=s.toks) (o:=.tup (xs++k)) (fun b ob q=>A3 _ q) (B4 _) ?_,rfl,p (fun w=>z (c.nil_iff.mpr w)) _ (I.hok.fresh (B4 _))⟩;exact⟨by rw[A6];exact f,_,d.append c,IsTup.new _ _⟩
end
def ixN(n:Nat)(i:Int):Tj:=if 0<=i then(if i<n then Z i.toNat else Y)else if -(n:Int)<=i then Z (i+n).toNat else Y
def atI{a:Type}(xs:Tx a)(i:Int):Tz a:=(ixN xs.length i).bind fun j=>xs[j]?
def OL{n:Nat}{j:Nat}(h:ixN n i=Z j):seqIndex? i n=Z j/\j<n/\-(n:Int)<=i/\i<n:=by
 unfold ixN at h;by_cases b:0<=i
 .rw[A4 b]at h;by_cases a:i<n
  .rw[A4 a]at h;have e:i.toNat=j:=D7 h;exact⟨by rw[seqIndex_of b a,e],by omega,by omega,a⟩
  .rw[B2 a]at h;cases h
 .rw[B2 b]at h;by_cases a:-(n:Int)<=i
  .rw[A4 a]at h;have e:(i+n).toNat=j:=D7 h;exact⟨by rw[seqIndex_neg (by omega) a,e],by omega,a,by omega⟩
  .rw[B2 a]at h;cases h
def EO{a:Type}{xs:Tx a}{v:a}(h:atI xs i=Z v):∃j,seqIndex? i xs.length=Z j/\xs[j]?=Z v/\j<xs.length/\-(xs.length:Int)<=i/\i<xs.length:=by
 unfold atI at h;cases e:ixN xs.length i with
 |none=>rw[e]at h;cases h
 |some j=>
  rw[e]at h;obtain⟨b,c,d,h4⟩:=OL e;exact⟨j,b,h,c,d,h4⟩
def iR{a:Type}{xs:Tx a}{j:Nat}{v:a}(h:xs[j]?=Z v):atI xs (j:Int)=Z v:=by
 have b:j<xs.length:=(List.getElem?_eq_some_iff.mp h).1
 have e:ixN xs.length (j:Int)=Z j:=by
  unfold ixN;rw[A4 (by omega),A4 (by omega)];simp
 unfold atI;rw[e];exact h
def PZ(b:Ue):Prop:=∀o i,subscripted b false o i=operate [o,i] (getItem o i)
def IxR(X:Cx)(r:R2):Prop:=
 ∀(b a:Ue)(pins:T2)(s:Uc)(σ:St)(H:Hp)(x y:V)(v u:Ua)(Q:VK),Inv X pins σ H s->RelV x v->RelV y u->r x y H Q->
  subscripted a false v u=operate [v,u] (getItem v u)->wpAny (model X.prog X.w) X.A (subscriptTail b a v u) (EP X pins σ Q) X.xe s
def MtR(X:Cx)(id:String)(r:V->Tf->Hp->VK->Prop):Prop:=
 ∀(pins:T2)(s:Uc)(σ:St)(H:Hp)(x:V)(xs:Tf)(v:Ua)(us:T7)(Q:VK),Inv X pins σ H s->RelV x v->bH xs us->r x xs H Q->
  wpAny (model X.prog X.w) X.A (call (.builtin id) (v::us)) (EP X pins σ Q) X.xe s
section
variable{X:Cx}{a b:Ue}{ta tb:TE}{pos:Pos}
def IxR.or(h:IxR X r)(h':IxR X e):IxR X (fun x y H Q=>r x y H Q\/e x y H Q):=by
 intro c d pins s σ H x y v u Q I f g q hs;rcases q with q|q
 .exact h c d pins s σ H x y v u Q I f g q hs
 .exact h' c d pins s σ H x y v u Q I f g q hs
def aHZ(c:IxR X r)(ha:PE X a ta)(d:PE X b tb)(hs:PZ b):PE X (.Subscript a b pos) (tOp r ta tb):=by
 intro pins s σ H Q I h;exact Subscript_ (aGZ ha d I h fun v u s2 x y e f g i q=>c a b pins s2 σ e x y v u Q f g i q (hs _ _))
def aIq(K:Fg):R2:=fun x y H Q=>∃p xs i v,x=.ref p/\y=.int i/\SqL K H p xs/\atI xs i=Z v/\Q v H
def aHC(K:Fg):R2:=fun x y H Q=>∃p xs i v,x=.ref p/\y=.int i/\SqT K H p xs/\atI xs i=Z v/\Q v H
def aHF:R2:=fun x y H Q=>∃z i c,x=.str z/\y=.int i/\z.length<=sizeLine/\atI z.cps.toList i=Z c/\Q (.str ⟨#[c]⟩) H
def ix_list:IxR X (aIq X.K):=by
 intro e f pins s σ H x y v u Q I A B h hs;obtain⟨p,xs,i,z,rfl,rfl,C,D,q⟩:=h;cases A;obtain⟨t,rfl⟩:=B;obtain⟨g,r,k,L⟩:=I.list C;obtain⟨j,d,E,M,h4,F⟩:=EO D;obtain⟨w,n,l⟩:=r.get E;have G:=r.length;have hn:=vX;have c:EP X pins σ Q w s:=⟨z,H,I,l,q⟩;by_cases o:0<=i
 .have m:i.toNat=j:=by
   rw[seqIndex_of o F]at d;exact D7 d
  exact item_listR k.isList o (by omega) (by rw[m];simpa using n) c hs
 .have m:(i+(g.toArray.size:Int)).toNat=j:=by
   rw[seqIndex_neg (by omega) h4]at d;rw[C5,<- G];exact D7 d
  exact subscriptTail_builtinR (x:=w) k.isList.typeIs slot_list_getitem.lookup
   (wpAny_getItem_list_neg (Q:=fun r J=>r=w/\EP X pins σ Q r J) k.isList (by omega) (by rw[C5]<;>omega) (by omega) (by rw[m];simpa using n) ⟨rfl,c⟩) hs
def ix_tup:IxR X (aHC X.K):=by
 intro c d pins s σ H x y v u Q I k l h hs;obtain⟨p,xs,i,z,rfl,rfl,m,n,q⟩:=h;cases k;obtain⟨t,rfl⟩:=l;obtain⟨o,r,g,F⟩:=I.tuple m;obtain⟨j,A,B,G,h4,J⟩:=EO n;obtain⟨w,C,e⟩:=r.get B;have D:=r.length;have hn:=vX;have f:EP X pins σ Q w s:=⟨z,H,I,e,q⟩
 exact subscriptTail_builtinR (x:=w) g.typeIs slot_tuple_getitem.lookup
  (getItem_tuple (j:=j) (Q:=fun r E=>r=w/\EP X pins σ Q r E) g (by omega) (by omega) (by rw[C5,<- D];exact A) (by simpa using C) ⟨rfl,f⟩) hs
def aGb:IxR X aHF:=by
 intro d e pins s σ H x y v u Q I g k h hs;obtain⟨z,i,c,rfl,rfl,w,l,q⟩:=h;obtain⟨t,rfl⟩:=g;obtain⟨A,rfl⟩:=k;obtain⟨j,f,m,B,h4,n⟩:=EO l;have o:z.cps.toList.length=z.length:=by simp[Str.length]
 rw[o]at f h4 n;have hn:=vX
 exact tail_any (typeIs_str s z t) slot_str_getitem.lookup (getItem_str (c:=c) (by
  have p:decide (i < -(2 ^ 63:Int))=false:=E4 (by omega);have r:decide (i>=2 ^ 63)=false:=E4 (by omega);rw[p,r,Bool.or_false]) (by rw[f];simpa using m) ⟨.str ⟨#[c]⟩,H,I.tok _,⟨_,rfl⟩,q⟩) hs
def rIx(K:Fg):R2:=fun x y H Q=>aIq K x y H Q\/aHC K x y H Q\/aHF x y H Q
def aGV:IxR X (rIx X.K):=ix_list.or (ix_tup.or aGb)
def LL(c:T7)(n j:Nat)(u:Ua):Obj.mapSeq (·.setIfInBounds j u) { cls:=.type "list",data:=.seq c.toArray n }={ cls:=.type "list",data:=.seq (c.set j u).toArray n }:=by
 simp[Obj.mapSeq]
def Inv.lst(I:Inv X pins σ H s)(h:H p=Z (.lst xs)):
 ∃(c:T7)(n:Nat),bH xs c/\s.heap.get? p=Z { cls:=.type "list",data:=.seq c.toArray n }/\xs.length<=sizeLine:=by
 obtain⟨z,c,n,r,e⟩:=I.hok p _ h;exact⟨c,n,r,e,z⟩
def Inv.lstUpd{c its':T7}{f:Obj->Obj}(I:Inv X pins σ H s)(h:H p=Z (.lst xs))
 (i:s.heap.get? p=Z { cls:=.type "list",data:=.seq c.toArray n }) (g:f { cls:=.type "list",data:=.seq c.toArray n }={ cls:=.type "list",data:=.seq its'.toArray d }) (r:bH ys its') (j:ys.length<=sizeLine) (t:Nat):
 Inv X pins σ (upd H p (.lst ys)) { s with heap:=s.heap.update p f,toks:=t }:=by
 have e:(s.heap.update p f).get? p=Z { cls:=.type "list",data:=.seq its'.toArray d }:=by
  rw[A1i f i (by rw[g]<;>rfl),g]
 refine I.write (x:=p) (e:=p) (by rw[h];trivial) (.inl rfl) (fun b u k q=>(Y5 _ _ (U3 k)).trans q) ⟨_,e⟩ ?_;exact⟨j,its',d,r,e⟩
def aDM:V->V->V->Hp->(Hp->Prop)->Prop:=fun o i v H Q=>∃p xs k j,o=.ref p/\i=.int k/\H p=Z (.lst xs)/\ixN xs.length k=Z j/\Q (upd H p (.lst (xs.set j v)))
def set_list:aGB X aDM:=by
 intro pins s σ H o i v D E u Q I y z A h;obtain⟨p,xs,k,j,rfl,rfl,l,B,q⟩:=h;cases y;obtain⟨t,rfl⟩:=z;obtain⟨c,n,r,e,C⟩:=I.lst l;obtain⟨d,F,m,h4⟩:=OL B;have f:=r.length;have hn:=vX
 have w:Inv X pins σ (upd H p (.lst (xs.set j v))) { s with heap:=s.heap.update p (Obj.mapSeq (·.setIfInBounds j u)) }:=
  I.lstUpd l e (LL c n j u) (r.set A j) (by rw[U2];exact C) s.toks
 by_cases x:0<=k
 .have g:k.toNat=j:=by
   rw[seqIndex_of x h4]at d;exact D7 d
  exact W.ki_setAt e x (by omega) (by rw[C5,<- f];exact h4) (by rw[g];exact⟨_,w,q⟩)
 .have g:(k+(c.toArray.size:Int)).toNat=j:=by
   rw[seqIndex_neg (by omega) m]at d;rw[C5,<- f];exact D7 d
  exact W.ki_setBack e (by omega) (by rw[C5,<- f];exact m) (by omega) (by rw[g];exact⟨_,w,q⟩)
def FW(lo hi:To)(n:Nat):(sliceBounds lo hi Y n).1=((HT.sIx n 0 lo:Nat):Int)/\(sliceBounds lo hi Y n).2.1=((HT.sIx n n hi:Nat):Int)/\(sliceBounds lo hi Y n).2.2=1:=by
 refine⟨?_,?_,rfl⟩
 .cases lo with
  |none=>simp[sliceBounds,HT.sIx]
  |some i=>
   simp only[sliceBounds,HT.sIx,Option.getD_none,show(1:Int) > 0 by decide,if_true];by_cases h:i<0
   .simp only[h,if_true]<;>omega
   .simp only[h,if_false]<;>omega
 .cases hi with
  |none=>simp[sliceBounds,HT.sIx]
  |some i=>
   simp only[sliceBounds,HT.sIx,Option.getD_none,show(1:Int) > 0 by decide,if_true];by_cases h:i<0
   .simp only[h,if_true]<;>omega
   .simp only[h,if_false]<;>omega
def BP(c:T7)(lo hi:To):slicePick c.toArray lo hi Y=((c.drop (HT.sIx c.length 0 lo)).take (HT.sIx c.length c.length hi-HT.sIx c.length 0 lo)).toArray:=by
 obtain⟨d,e,f⟩:=FW lo hi c.toArray.size;unfold slicePick;rw[d,e,f];simp only[sliceRange_one,pick_run,List.size_toArray]<;>rfl
def aHY(K:Fg):V->To->To->Hp->VK->Prop:=fun x lo hi H Q=>∃a xs,x=.ref a/\SqL K H a xs/\∀p,H p=Y->Q (.ref p) (upd H p (.lst (vS xs lo hi)))
def sl_list:SlR X (aHY X.K):=by
 intro pins s σ H x v k l lo hi sl Q I d hs e f h;obtain⟨a,xs,rfl,g,q⟩:=h;cases d;obtain⟨i,r,ht,j⟩:=I.list g;have c:=r.length;refine⟨"list",_,slot_list_getitem.lookup,ht.isList.typeIs,?_⟩;refine wpAny_getItem_list_slice ht.isList hs e f .none (by simp) ?_ (by rw[C5]<;>omega);rw[BP,<- c];refine⟨.ref s.heap.objs.size,_,I.laid (t':=s.toks) (o:=.lst (vS xs lo hi)) (fun b ob q=>A3 _ q) (B4 _) ?_,rfl,q _ (I.hok.fresh (B4 _))⟩;exact⟨O7 (wZ xs lo hi) j,_,0,(r.drop (HT.sIx xs.length 0 lo)).take (HT.sIx xs.length xs.length hi-HT.sIx xs.length 0 lo),C6 _ rfl⟩
def FA:dM X (.builtin "len") (fun xs H Q=>∃p ys,xs=[.ref p]/\(SqL X.K H p ys\/SqT X.K H p ys)/\Q (.int ys.length) H):=by
 intro pins s σ H xs us Q I r h;obtain⟨p,ys,rfl,hq,q⟩:=h;obtain⟨u,rfl,g⟩:=vals1 r;cases g;have hn:=vX;rcases hq with hq|hq
 .obtain⟨d,e,f,i⟩:=I.list hq;have c:=e.length;exact Calls.call_len_list f.isList (by simp only[List.size_toArray]<;>omega) ⟨.int ys.length,H,I.tok _,⟨s.toks+1,by rw[C5,c]⟩,q⟩
 .obtain⟨d,e,f,i⟩:=I.tuple hq;have c:=e.length;exact len_tuple f (by simp only[List.size_toArray]<;>omega) ⟨.int ys.length,H,I.tok _,⟨s.toks+1,by rw[C5,c]⟩,q⟩
def dM.or(h:dM X f r)(h':dM X f c):dM X f (fun xs H Q=>r xs H Q\/c xs H Q):=by
 intro pins s σ H xs us Q I rs q;rcases q with q|q
 .exact h pins s σ H xs us Q I rs q
 .exact h' pins s σ H xs us Q I rs q
def HG:dM X (.type "list") (fun xs H Q=>∃p ys,xs=[.ref p]/\(SqL X.K H p ys\/SqT X.K H p ys)/\∀l,H l=Y->Q (.ref l) (upd H l (.lst ys))):=by
 intro pins s σ H xs us Q I r h;obtain⟨p,ys,rfl,hq,q⟩:=h;obtain⟨u,rfl,t⟩:=vals1 r;cases t
 have f:∀(c:T7),bH ys c->ys.length<=sizeLine->∀(h':Heap)(c':Nat),(∀b o',s.heap.get? b=Z o'->h'.get? b=Z o')->
  h'.get? s.heap.objs.size=Z { cls:=.type "list",dict:=Y,data:=.seq c.toArray c',slots:=#[] }->EP X pins σ Q (.ref s.heap.objs.size) { s with heap:=h' }:=fun c d g h' c' kp e=>
  ⟨.ref s.heap.objs.size,_,I.laid (t':=s.toks) kp (B4 _) (show gM X.prog X.w _ h' _ (.lst ys)from⟨g,c,c',d,e⟩),rfl,q _ (I.hok.fresh (B4 _))⟩
 rcases hq with hq|hq
 .obtain⟨c,d,j,g⟩:=I.list hq;have i:=d.length;obtain⟨o,k,m,n,hd⟩:=j.isList;exact call_list_seq p (.inl rfl) k m hd (fun h' c' kp e=>f c d g h' c' kp e) (by simp only[List.size_toArray]<;>omega)
 .obtain⟨c,d,j,g⟩:=I.tuple hq;have i:=d.length;obtain⟨o,k,m,n,hd⟩:=j;exact call_list_seq p (.inr rfl) k m hd (fun h' c' kp e=>f c d g h' c' kp e) (by simp only[List.size_toArray]<;>omega)
def BZ:dM X (.type "tuple") (fun xs H Q=>∃p ys,xs=[.ref p]/\((SqL X.K H p ys/\∀l,H l=Y->Q (.ref l) (upd H l (.tup ys)))\/(SqT X.K H p ys/\Q (.ref p) H))):=by
 intro pins s σ H xs us Q I r h;obtain⟨p,ys,rfl,h⟩:=h;obtain⟨u,rfl,m⟩:=vals1 r;cases m;rcases h with⟨d,q⟩|⟨d,q⟩
 .obtain⟨c,f,g,i⟩:=I.list d;have j:=f.length;refine call_tuple_list g.isList (fun h' kp=>?_) (by simp only[List.size_toArray]<;>omega);have k:Inv X pins σ H { s with heap:=h' }:=I.kept (t':=s.toks) kp
  have n:Inv X pins σ (upd H h'.objs.size (.tup ys)) { s with heap:=h'.push { cls:=.type "tuple",data:=.seq c.toArray } }:=
   k.laid (t':=s.toks) (fun b o e=>A3 _ e) (B4 _) (show gM X.prog X.w _ _ _ (.tup ys)from⟨i,c,f,IsTup.new _ _⟩)
  exact⟨.ref h'.objs.size,_,n,rfl,q _ (k.hok.fresh (B4 _))⟩
 .obtain⟨c,f,g,i⟩:=I.tuple d;exact call_tuple_same g ⟨.ref p,H,I,rfl,q⟩
def tyV(K:Fg)(T:String)(x:V)(H:Hp):Prop:=match x with
 |.str _=>T="str"
 |.int _=>T="int"
 |.ref p=>(T="list"/\∃xs,SqL K H p xs)\/(T="tuple"/\∃o,K.lookup p=Z o/\o.cls=.type "tuple"/\o.dict=Y) \/
  (T="dict"/\((∃kvs,H p=Z (.dK kvs))\/∃kvs,H p=Z (.dT kvs)))\/(T="set"/\∃S n,H p=Z (.set S n))
 |_=>False
def XQ(I:Inv X pins σ H s)(r:RelV x v)(ty:tyV X.K T x H):
 s.TypeIs v T/\∀a,v=.ref a->∃ob,s.heap.get? a=Z ob/\ob.dict=Y:=by
 cases x with
 |str z=>
  obtain⟨t,rfl⟩:=r;cases (show T="str" from ty);exact⟨typeIs_str s z t,fun _ e=>nomatch e⟩
 |int i=>
  obtain⟨t,rfl⟩:=r;cases (show T="int" from ty);exact⟨typeIs_int s i t,fun _ e=>nomatch e⟩
 |ref p=>
  cases r;rcases ty with⟨rfl,xs,h⟩|⟨rfl,o,d,j,hd⟩|⟨rfl,d⟩|⟨rfl,S,n,d⟩
  .obtain⟨k,_,g,_⟩:=I.list h;refine⟨g.isList.typeIs,fun a e=>?_⟩;cases e;obtain⟨o,n,e,c,hd,_⟩:=g;exact⟨o,e,hd⟩
  .refine⟨⟨o,I.kIn p o d,j⟩,fun a e=>?_⟩;cases e;exact⟨o,I.kIn _ o d,hd⟩
  .have z:∃o,s.heap.get? p=Z o/\o.ExactDict:=by
    rcases d with⟨kvs,d⟩|⟨kvs,d⟩
    .obtain⟨_,_,_,_,o,_,_,e,ex,_⟩:=I.hok p _ d;exact⟨o,e,ex⟩
    .obtain⟨_,_,_,_,o,_,_,e,ex,_⟩:=I.hok p _ d;exact⟨o,e,ex⟩
   obtain⟨o,e,ex⟩:=z;refine⟨⟨o,e,ex.1⟩,fun a f=>?_⟩;cases f;exact⟨o,e,ex.2.1⟩
  .obtain⟨o,_,_,_,e,ex,_⟩:=I.hok p _ d;refine⟨⟨o,e,ex.1⟩,fun a f=>?_⟩;cases f;exact⟨o,e,ex.2.1⟩
 |_=>exact False.elim ty
noncomputable def aIz(K:Fg)(T:String)(r:V->Tf->Hp->VK->Prop)(to:TE):TE:=fun σ H Q=>to σ H fun x c=>tyV K T x c/\r x [] c Q
noncomputable def tBM(K:Fg)(T:String)(r:V->Tf->Hp->VK->Prop)(to:TE)(t:TA):TE:=fun σ H Q=>to σ H fun x c=>tyV K T x c/\t σ c fun xs d=>r x xs d Q
variable{o e:Ue}{es:Ta}{to:TE}{t:TA}{name:Str}{apos cpos:Pos}{T id:String}{r:V->Tf->Hp->VK->Prop}
def XG(j:PlainAttrs T)(slot:Slot T name id)(f:typeOf (.builtin id)=pure (.type "method_descriptor"))(hm:MtR X id r)(k:PE X o to)
 (c:attributeBase o name X.env (eval o X.env)=eval o X.env:=by rfl) (d:(apos.endLine==cpos.line)=true:=by rfl):PE X (.Call (.Attribute o name apos) [] [] cpos) (aIz X.K T r to):=by
 intro pins s σ H Q I h;refine wpAny_Call_method0_late c d (thn (k pins s σ H _ I h) fun v s1 ⟨x,l,g,i,ty,m⟩=>?_);obtain⟨n,p⟩:=XQ g i ty;exact⟨T,id,j,slot,f,n,p,Calls.callWith_builtin rfl (PySem.evalArgs_none (hm pins s1 σ l x [] v [] Q g i .nil m))⟩
def aEp(m:PlainAttrs T)(slot:Slot T name id)(i:typeOf (.builtin id)=pure (.type "method_descriptor"))(hm:MtR X id r)(n:PE X o to)(ha:PA X (e::es) t)
 (d:attributeBase o name X.env (eval o X.env)=eval o X.env:=by rfl)
 (g:((backTo cpos (starEach (e::es) X.env)).all (fun x=>!x.1)&&(backToKw cpos (keywordEach [] X.env)).all (fun x=>x.1.isSome)
  && decide ((e::es).length+([]:Tx Keyword).length+(if ([]:Tx Keyword).isEmpty then 0 else 1)<30))=true:=by rfl)
 (f:(apos.endLine==cpos.line)=true:=by rfl) (hs:starEach (e::es) X.env=(false,eval e X.env)::starEach es X.env:=by rfl) (c:(backTo cpos (starEach es X.env)).any (·.1)=false:=by rfl):
 PE X (.Call (.Attribute o name apos) (e::es) [] cpos) (tBM X.K T r to t):=by
 intro pins s σ H Q I h;refine wpAny_Call_method_late d g f rfl (thn (n pins s σ H _ I h) fun v s1 ⟨x,p,j,k,ty,q⟩=>?_);obtain⟨u,w⟩:=XQ j k ty;refine⟨T,id,m,slot,i,u,w,?_⟩;have l:=ha cpos pins s1 σ p _ j q;rw[hs]at l ⊢;refine Calls.callWith_builtin (by show(false || (backTo cpos (starEach es X.env)).any (·.1))=false;rw[c]<;>rfl) (Calls.evalArgs_plain ?_);exact thn l fun us s2 ⟨vs,y,z,A,B⟩=>hm pins s2 σ y x vs v us Q z k A B
end
def MtM(X:Cx)(id:String)(r:V->Tf->Hp->VK->Prop):Prop:=
 ∀(pins:T2)(s:Uc)(σ:St)(H:Hp)(x:V)(xs:Tf)(v:Ua)(us:T7)(Q:VK),Inv X pins σ H s->RelV x v->bH xs us->r x xs H Q->
  wpAny (model X.prog X.w) X.A (call (.builtin id) (v::us)) (EP X pins σ Q) X.xe s
def bH.one:∀{x:V}{us:T7},bH [x] us->∃u,us=[u]/\RelV x u
 |_,_,.cons r .nil=>⟨_,rfl,r⟩
def bH.zero:∀{us:T7},bH [] us->us=[]
 |_,.nil=>rfl
def bH.dropLast(h:bH xs us):bH xs.dropLast us.dropLast:=by
 induction h with
 |nil=>exact .nil
 |cons r t ih=>
  cases t with
  |nil=>exact .nil
  |cons q a=>exact .cons r ih
def bH.reverse(h:bH xs us):bH xs.reverse us.reverse:=by
 induction h with
 |nil=>exact .nil
 |cons r t ih=>rw[U8,U8];exact bH.append ih (.cons r .nil)
def LK{c:Type}(l:Tx c):l.eraseIdx (l.length-1)=l.dropLast:=by
 induction l with
 |nil=>rfl
 |cons a r ih=>
  cases r with
  |nil=>rfl
  |cons b r=>
   have e:(a::b::r).length-1=((b::r).length-1)+1:=by
    have d:(a::b::r).length=r.length+2:=rfl;have f:(b::r).length=r.length+1:=rfl;omega
   rw[e,List.eraseIdx_cons_succ,ih]
   all_goals rfl
section
variable{X:Cx}{pins:T2}{σ:St}{H:Hp}{s:Uc}{l b:Ud}{xs ys zs:Tf}
def Inv.lset{a its':T7}{f:Tl->Tl}{t':Nat}(I:Inv X pins σ H s)(c:H l=Z (.lst xs))
 (e:s.heap.get? l=Z { cls:=.type "list",data:=.seq a.toArray n }) (d:f a.toArray=its'.toArray) (g:bH ys its') (h:ys.length<=sizeLine):
 Inv X pins σ (upd H l (.lst ys)) { s with heap:=s.heap.update l (Obj.mapSeq f),toks:=t' }:=by
 have q:=PySem.IsL.update e f;rw[d]at q;refine I.write (x:=l) (e:=l) (by rw[c];exact trivial) (.inl rfl) (fun k u i j=>(Y5 s.heap (Obj.mapSeq f) (U3 i)).trans j) ⟨_,q⟩ ?_;exact⟨h,its',_,g,q⟩
def Inv.lnew{t':Nat}(I:Inv X pins σ H s)(c:bH ys a)(d:ys.length<=sizeLine):
 Inv X pins σ (upd H s.heap.objs.size (.lst ys)) { s with heap:=s.heap.push { cls:=.type "list",data:=.seq a.toArray },toks:=t' }:=
 I.laid (fun _ _ q=>A3 _ q) (B4 _) ⟨d,a,0,c,C6 _ rfl⟩
def Inv.fresh(I:Inv X pins σ H s):H s.heap.objs.size=Y:=I.hok.fresh (B4 _)
def Inv.lstM(I:Inv X pins σ H s)(c:H l=Z (.lst xs)):xs.length<=sizeLine/\∃(a:T7)(n:Nat),bH xs a/\xs.length=a.length/\s.heap.get? l=Z { cls:=.type "list",data:=.seq a.toArray n }:=by
 obtain⟨z,a,n,r,e⟩:=I.hok l _ c;exact⟨z,a,n,r,r.length,e⟩
def aAv{n:Nat}(h:n<=sizeLine):Builtin.List.listTooLong n=false:=by
 unfold Builtin.List.listTooLong;exact E4 (by omega)
end
section
variable{X:Cx}
def PX:V->Tf->Hp->VK->Prop:=fun x vs H Q=>∃l xs y,x=.ref l/\vs=[y]/\H l=Z (.lst xs)/\xs.length<sizeLine/\Q .non (upd H l (.lst (xs++[y])))
def TZ:MtM X "list.append" PX:=by
 intro pins s σ H x vs v us Q I c d h;obtain⟨l,xs,y,rfl,rfl,b,g,q⟩:=h;cases c;obtain⟨u,rfl,f⟩:=d.one;obtain⟨z,a,n,r,i,e⟩:=I.lstM b;refine call_meets F.slot_list_append ⟨_,e,rfl⟩ F.entry_list_append (F.args_list_append_2 _ _) (PySem.list_append l a.toArray n u (by rw[C5];omega)) ⟨e,?_⟩;refine⟨.non,_,I.lset (its':=a++[u]) b e (by simp) (r.append (.cons f .nil)) ?_,rfl,q⟩;rw[A6,E7];omega
def RJ:V->Tf->Hp->VK->Prop:=fun x vs H Q=>∃l b xs a,x=.ref l/\vs=[.ref b]/\H l=Z (.lst xs)/\H b=Z (.lst a)/\xs.length+a.length<=sizeLine/\Q .non (upd H l (.lst (xs++a)))
def SU:MtM X "list.extend" RJ:=by
 intro pins s σ H x vs v us Q I i j h;obtain⟨l,b,xs,t,rfl,rfl,g,hB,w,q⟩:=h;cases i;obtain⟨u,rfl,k⟩:=j.one;cases k;obtain⟨z,c,n,r,y,e⟩:=I.lstM g;obtain⟨A,a,n2,m,o,p⟩:=I.lstM hB;have f:c.toArray.size+a.toArray.size<=sizeLine:=by rw[C5,C5];omega
 have d:¬(!c.toArray.isEmpty&&Builtin.List.listTooLong (c.toArray.size+a.toArray.size))=true:=by
  rw[aAv f,Bool.and_false];exact A7
 refine call_meets F.slot_list_extend ⟨_,e,rfl⟩ F.entry_list_extend (F.args_list_extend_2 _ _)
  (AutoSeq1.list_extend_list_list_0 l c.toArray n b a.toArray n2 d (by rw[C5];omega) (by omega)) ⟨e,p,?_⟩
 refine⟨.non,_,I.lset (its':=c++a) g e (by simp) (r.append m) ?_,rfl,q⟩;rw[A6];omega
def aIp:V->Tf->Hp->VK->Prop:=fun x vs H Q=>∃l xs y,x=.ref l/\vs=[]/\H l=Z (.lst xs)/\xs[xs.length-1]?=Z y/\Q y (upd H l (.lst xs.dropLast))
def aFK:MtM X "list.pop" aIp:=by
 intro pins s σ H x vs v us Q I f g h;obtain⟨l,xs,y,rfl,rfl,d,i,q⟩:=h;cases f;have b:=g.zero;subst b;obtain⟨z,a,n,r,j,e⟩:=I.lstM d;obtain⟨u,k,m⟩:=r.get i
 have c:a.toArray[a.toArray.size-1]?=Z u:=by
  show a.toArray[a.length-1]?=Z u;rw[<- Z9,<- j];exact k
 refine call_meets F.slot_list_pop ⟨_,e,rfl⟩ F.entry_list_pop (F.args_list_pop_1 _) (MeetsSeq.list_pop_last l a.toArray n u c (by rw[C5];omega)) ⟨e,?_⟩;refine⟨y,_,I.lset (its':=a.dropLast) d e ?_ r.dropLast ?_,m,q⟩
 .show a.toArray.eraseIdxIfInBounds (a.toArray.size-1)=a.dropLast.toArray;rw[C5,List.eraseIdxIfInBounds_toArray,LK]
 .rw[List.length_dropLast];omega
def KR:V->Tf->Hp->VK->Prop:=fun x vs H Q=>∃l xs,x=.ref l/\vs=[]/\H l=Z (.lst xs)/\Q .non (upd H l (.lst xs.reverse))
def LW:MtM X "list.reverse" KR:=by
 intro pins s σ H x vs v us Q I d f h;obtain⟨l,xs,rfl,rfl,c,q⟩:=h;cases d;have b:=f.zero;subst b;obtain⟨z,a,n,r,g,e⟩:=I.lstM c;refine call_meets F.slot_list_reverse ⟨_,e,rfl⟩ F.entry_list_reverse (F.args_list_reverse_1 _) (AutoSeq1.list_reverse_list_0 l a.toArray n (by rw[C5];omega)) ⟨e,?_⟩;refine⟨.non,_,I.lset (its':=a.reverse) c e (by simp) r.reverse ?_,rfl,q⟩;rw[Y1];omega
end
section
variable{X:Cx}{pins:T2}{σ:St}{H:Hp}{s:Uc}{a:Ud}{y v:V}{u r:Ua}{o:Tz V}{A:Ug}{E:T1}
def Inv.big(I:Inv X pins σ H s):sysModules<s.heap.objs.size:=by
 have h:mainGlobals<s.heap.objs.size:=(I.mod.glob.keeps I.bk).lt;exact Nat.lt_trans (by decide) h
end
def YA{P:Uf}(h:Heap)(a:sysModules<h.objs.size):gM P w H (h.push { cls:=.type "dict",data:=.dict #[] }) h.objs.size (.dK []):=
 ⟨E9 _,beq_eq_false_iff_ne.mpr (U3 (C8 a)),[],.nil,Heap.DictOf.new h⟩
def aAe:TE:=fun _ H Q=>∀p,H p=Y->Q (.ref p) (upd H p (.dK []))
section
variable{X:Cx}{pos:Pos}
def XR:PE X (.Dict [] [] pos) aAe:=fun pins s σ H Q I h=>
 wpAny_Dict_empty ⟨.ref s.heap.objs.size,_,I.laid (a:=s.heap.objs.size) (o:=.dK []) (t':=s.toks) (fun _ _ q=>A3 _ q) (B4 _) (YA s.heap I.big),rfl,h _ (I.hok.fresh (B4 _))⟩
end
structure M1(X:Cx)(o:Ue)(m:Str)(apos:Pos)(e:Ue)(cpos:Pos):Prop where
 base:attributeBase o m X.env (eval o X.env)=eval o X.env
 few:((backTo cpos (starEach [e] X.env)).all (fun x=>!x.1)&&(backToKw cpos (keywordEach [] X.env)).all (fun x=>x.1.isSome)
  && decide (([e]:Ta).length+([]:Tx Keyword).length+(if ([]:Tx Keyword).isEmpty then 0 else 1)<30))=true
 line:(apos.endLine==cpos.line)=true
 trees:backTo cpos (starEach [e] X.env)=[(false,eval e X.env)]
structure M2(X:Cx)(o:Ue)(m:Str)(apos:Pos)(e f:Ue)(cpos:Pos):Prop where
 base:attributeBase o m X.env (eval o X.env)=eval o X.env
 few:((backTo cpos (starEach [e,f] X.env)).all (fun x=>!x.1)&&(backToKw cpos (keywordEach [] X.env)).all (fun x=>x.1.isSome)
  && decide (([e,f]:Ta).length+([]:Tx Keyword).length+(if ([]:Tx Keyword).isEmpty then 0 else 1)<30))=true
 line:(apos.endLine==cpos.line)=true
 trees:backTo cpos (starEach [e,f] X.env)=[(false,eval e X.env),(false,eval f X.env)]
end L2
namespace Att
open PySem PySem.W PySem.Calls PyProof.Rows
def yC{P:Params}:∀(ns:T9)(vs:T7),WellAll P h vs (ns.map WData.int)->IntsAre vs ns:=by
 intro ns
 induction ns with
 |nil=>
  intro vs w;rw[List.map_nil]at w;cases w;exact .nil
 |cons n ns ih=>
  intro vs w;rw[B6]at w;cases w with
  |cons a b=>
   cases a;exact .cons _ _ (ih _ b)
def UT{l:OpenLaw}{n:Nat}(hn:l.most=Z n){P:Params}
 (c:l.row.toRowW.claim.pre args=true) (i:WellAll P h b args):
 ∃a vs ns,b=[Value.ref a]/\args=[WData.list (ns.map WData.int)]/\h.get? a=Z { cls:=.type "list",data:=.seq vs.toArray }/\IntsAre vs ns/\ns.length<=n:=by
 have j:WShape.hasAll [] args [.list .int]=true:=(pre_splitW c).1;have k:l.pre.holds [] { args:=args }=true:=(pre_splitW c).2;obtain⟨d,r,rfl,m,o⟩:=hasAllW_cons j;obtain rfl:=hasAllW_nil o;obtain⟨xs,rfl,p⟩:=hasW_list m;obtain⟨ns,rfl⟩:=items_int p
 have e:ns.length<=n:=by
  unfold OpenLaw.pre at k
  have h4:(WTm.not (.lt (.lit (.int (n:Int))) (.len (.arg 0)))).holds [] { args:=[.list (ns.map .int)] }=true:=by
   have h4:=(holds_andW k).1;rw[hn]at h4;exact h4
  have g:=condW_of h4 (w_not (w_lt w_lit (w_len_list (w_arg rfl))));rw[A0]at g;refine Nat.le_of_not_lt fun q=>?_;have s:(n:Int)<((ns.length:Nat):Int):=by omega
  first
   |(rw[C7 s]at g;exact absurd g (by decide))
   |(simp at g;omega)
 cases i with
 |cons t u=>
  cases u;cases t with
  |list v f=>exact⟨_,_,ns,rfl,rfl,v,yC ns _ f,e⟩
def UB(l:OpenLaw)(args:Tx WData):l.row.toRowW.claim.post args (.bool true) args=true:=
 postW_of (r:=l.row.toRowW) (X:=(true==true))
  (show WShape.has [] (.bool true) .bool=true by first|rfl|decide|simp[WShape.has,WShape.arms,WShape.armsAll])
  (show(WTm.eq .res (.lit (.bool true))).value [] { args:=args,res:=Z (.bool true),after:=args }=Z (.bool (true==true))from w_eq_bool (w_res rfl) w_lit) rfl
def attach_call{l:OpenLaw}{n:Nat}{XP:(Str->Ti)->Heap->Prop}{YP:World->Heap->Prop}{d:DefRec}
 (hn:l.most=Z n) (m:d.params.defaults=[])
 (call:∀(w:World)(s₀ c:Uc)(mg mb:Str->Ti)(fa:Ud)(o:Obj)(pm j doc:Ua)(a:Ud)(vs:T7)(ns:T9),
  Ground q loose [] XP w s₀ mg mb c.heap->YP w c.heap->
  c.heap.get? fa=Z o->o.data=.func (docDef d.name d.params d.body d.scope pm j doc)->c.heap.CodeRec j d.name->mg d.name=Z (.ref fa)->
  c.heap.get? a=Z { cls:=.type "list",data:=.seq vs.toArray }->IntsAre vs ns->ns.length<=n->c.gens=#[]->
  codeAny (model l.prog w) callerA (.call (.ref fa) ⟨[.ref a],[]⟩) (fun r k=>r=.ok (.ret (.bool true))/\OldK c.heap k.heap/\k.os=c.os/\AllBare k.gens) c):
 WalkO q loose XP YP l.row.toRowW d [] (fun f vs=>PySem.call f vs):=by
 intro w s₀ c mg mb G b fa o pm j doc y kV z hd p u s A args v as g x B t C;obtain rfl:y=.none:=Dflts.none u m;obtain rfl:kV=.none:=Dflts.noKw u;obtain⟨a,vs,ns,rfl,rfl,h,e,i⟩:=UT hn g t;refine enter_call (A1c (call w s₀ c mg mb fa o pm j doc a vs ns G b z (fd_plain hd) p s h e i A) fun r k D=>?_);obtain⟨rfl,E,F,h4⟩:=D;exact⟨.inl ⟨.bool true,.bool true,[],rfl,fun _=>rfl,.bool true,UB l _,fun _=>⟨List.Pairwise.nil,fun _ hm=>(nomatch hm)⟩⟩,E,F,h4⟩
section
variable{prog:Uf}{w:World}{A:Ug}{E:T1}{s:Uc}{K:Frag}
end
end Att
namespace L2
open PySem PySem.Spec PyProof.Rows
def vM:∀{vs:T7}{ns:T9},IntsAre vs ns->bH (ns.map V.int) vs
 |_,_,.nil=>.nil
 |_,_,.cons n t h=>.cons ⟨t,rfl⟩ (vM h)
def aGP(H:Hp):Prop:=∀b,H b=Y\/∃o xs,H b=Z (.frz o (.lst xs))
def ZD{P:Uf}{K:Fg}{a:Ud}{x:Str}{sp:Sp}{c:Uc}{vs:T7}
 (KX:K.In c.heap) (t:c.heap.Ns mainGlobals mg) (g:c.heap.Ns builtinsNs mb) (G:∀x:Str,x≠"__name__"->mb x=bootBuiltins x) (y:c.heap.NoLimit) (I:∃W,c.heap.Ns sysModules W) (J:∃bm ob,mg "__builtins__"=Z (.ref bm)/\bm≠builtinsNs/\c.heap.get? bm=Z ob/\ob.cls=.type "module"/\ob.dict=Z builtinsNs/\ob.data=.plain) (hg:c.gens=#[])
 (ha:c.heap.get? a=Z { cls:=.type "list",data:=.seq vs.toArray }) (hi:IntsAre vs ns) (X:ns.length<=sizeLine) (hr:eJ k callerA)
 (F:∀base:Heap,K.In base->base.Ns mainGlobals mg->mY P w K mg base CX k fa fd [x] sp) (p:∀(s:Uc)(u:Ua),BindsTo s fd ⟨[u],[]⟩ [(x,u)])
 (L:∀H:Hp,aGP H->SqL K H a (ns.map V.int)->sp [.ref a] H (fun v _=>v=.bl true) fun _ _ _=>False)
 (M:∀H e i,CX [] H c (fun _ _ _=>False) e i->False):
 codeAny (model P w) callerA (.call (.ref fa) ⟨[.ref a],[]⟩) (fun r i=>r=.ok (.ret (.bool true))/\OldK c.heap i.heap/\i.os=c.os/\AllBare i.gens) c:=by
 have rv:=vM hi;have A:=hi.length
 have l:∀H:Hp,aGP H->SqL K H a (ns.map V.int)->HOk P w H c.heap->(∀b,H b≠Y->b=a)->(H a≠Y->K.lookup a=Y)->
  codeAny (model P w) callerA (.call (.ref fa) ⟨[.ref a],[]⟩) (fun r i=>r=.ok (.ret (.bool true))/\OldK c.heap i.heap/\i.os=c.os/\AllBare i.gens) c:=by
  intro H hO hS hok N hK;have f:∀{b:Ud}{o:Obj},c.heap.get? b=Z o->H b=Y->(uR c.heap H).get? b=Z o:=fun e n=>JC e n
  have O:∀{b:Ud}{o:Obj}{es:Array DictEntry}{ep:Nat},c.heap.get? b=Z o->o.data=.dict es ep->H b=Y:=fun{b o es ep} e d=>by
   cases q:H b with
   |none=>rfl
   |some u=>
    have B:b=a:=N b (by rw[q];simp);subst B;rw[ha]at e;cases e;have d':Data.seq vs.toArray _=Data.dict es ep:=d;cases d'
  have j:∀{b:Ud}{m:Str->Ti},c.heap.Ns b m->(uR c.heap H).Ns b m:=fun{b m} ⟨o,es,ep,e,d,r⟩=>⟨o,es,ep,f e (O e d),d,r⟩
  have C:K.In (uR c.heap H):=fun b o e=>f (KX b o e) (by
   cases q:H b with
   |none=>rfl
   |some u=>
    have B:b=a:=N b (by rw[q];simp);subst B;rw[hK (by rw[q];simp)]at e;cases e)
  have hM:Mod K mg (uR c.heap H):=⟨C,j t,⟨mb,j g,G⟩,(let⟨mc,Q,R⟩:=y;⟨mc,j Q,R⟩),(let⟨W,S⟩:=I;let⟨o,es,ep,Q,R,_⟩:=j S;⟨o,es,ep,Q,R⟩),(let⟨bm,ob,b1,b2,T,b4,b5,b6⟩:=J;⟨bm,ob,b1,b2,f T (by
   cases q:H bm with
   |none=>rfl
   |some u=>
    have B:bm=a:=N bm (by rw[q];simp);rw[B,ha]at T;cases T;cases b6),b4,b5,b6⟩)⟩
  have e0:YB P w K mg (uR c.heap H) callerA [] c H:=⟨rfl,hM,fun b o e=>RK e,Nat.le_of_eq (CF _ _),trivial,fun b g=>absurd (show b∈([]:Td)from g) (by simp),hok,.of_eq hg⟩;refine A1c ((F _ C (j t)).run callerA [] c H ⟨[.ref a],[]⟩ [.ref a] [.ref a] _ _ hr e0 (p c (.ref a)) (.cons rfl .nil) (L H hO hS)) fun r i h=>?_;cases r with
  |error e=>exact(M H e i h).elim
  |ok fl=>
   cases fl with
   |next=>exact False.elim h
   |brk=>exact False.elim h
   |cont=>exact False.elim h
   |ret u=>
    obtain⟨v,H',os,bare,un,D,r',q⟩:=h;have q':v=.bl true:=q;subst q';obtain rfl:u=Value.bool true:=r';refine⟨rfl,OldK.of_keep fun b o e=>?_,os,bare⟩;cases q:H b with
    |none=>exact un.keep b o e q (by intro z;exact absurd (show b∈([]:Td)from z) (by simp)) (by simp)
    |some u=>
     rcases hO b with z|⟨ob,xs,z⟩
     .rw[q]at z;cases z
     .have z2:=un.frzs b ob _ z;obtain⟨e1,_⟩:=hok b _ z;obtain⟨e2,_⟩:=D b _ z2;rw[e]at e1;cases e1;exact e2
 cases U:K.lookup a with
 |some o=>
  have e:=KX a o U;rw[ha]at e;cases e;refine l (fun _=>Y) (fun _=>.inl rfl) (.inr ⟨_,vs.toArray,_,U,rfl,rfl,rfl,by rw[C5,A];exact X,by simpa using rv⟩) (fun b u z=>by have E:(Y:Tz HO)=Z u:=z;cases E) (fun b z=>absurd rfl z) fun z=>absurd rfl z
 |none=>
  refine l (fun b=>if b=a then Z (.frz { cls:=.type "list",data:=.seq vs.toArray } (.lst (ns.map V.int)))else Y) (fun b=>?_) (.inl (.inr ⟨{ cls:=.type "list",data:=.seq vs.toArray },A4 rfl⟩)) (fun b u z=>?_) (fun b z=>?_) fun _=>U
  .by_cases g:b=a
   .exact .inr ⟨_,_,A4 g⟩
   .exact .inl (B2 g)
  .by_cases g:b=a
   .have E:=(A4 g).symm.trans z;cases E;subst g;exact⟨ha,by rw[A0];exact X,vs,_,rv,ha⟩
   .have E:=(B2 g).symm.trans z;cases E
  .by_cases g:b=a
   .exact g
   .exact absurd (B2 g) z
noncomputable abbrev KOf{K:Fg}{h:Heap}(_:K.In h):Fg:=K
def walk_of{l:W.OpenLaw}{n:Nat}(D:PyProof.Rows.importsNone q=true){YP:World->Heap->Prop}{d:DefRec}{K:Params->Fg}{CX:World->CXT}{sp:World->Sp}{x:Str}
 (hn:l.most=Z n) (r:n<=sizeLine) (t:d.params.defaults=[]) (E:eJ k callerA)
 (I:∀(w:World)(h:Heap),YP w h->(K w.params).In h)
 (F:∀(w:World)(mg:Str->Ti)(fa:Ud)(h:Heap),(K w.params).In h->h.Ns mainGlobals mg->mg d.name=Z (.ref fa)->
  ∃fd:FuncData,(∀(s:Uc)(u:Ua),BindsTo s fd ⟨[u],[]⟩ [(x,u)]) /\
   ∀base:Heap,(K w.params).In base->base.Ns mainGlobals mg->mY l.prog w (K w.params) mg base (CX w) k fa fd [x] (sp w))
 (y:∀(w:World)(H:Hp)(a:Ud)(ns:T9),ns.length<=n->aGP H->SqL (K w.params) H a (ns.map V.int)->sp w [.ref a] H (fun v _=>v=.bl true) fun _ _ _=>False)
 (z:∀(w:World)(H:Hp)(s:Uc)(e:Ua)(A:Uc),CX w [] H s (fun _ _ _=>False) e A->False):
 W.WalkO q loose XP YP l.row.toRowW d [] (fun f vs=>PySem.call f vs):=by
 refine Att.attach_call hn t fun w s₀ m mg mb fa o pm Q doc a vs ns G c R hd J B p j i L=>?_;have KX:=I w _ c;obtain⟨fd,M,N⟩:=F w mg fa _ KX G.T.g B;exact ZD KX G.T.g G.T.b G.T.builtins G.T.nolimit (let⟨O,C,_⟩:=(G.T.seer D).mods;⟨O,C⟩) G.T.bmain L p j (O7 i r) E N M (fun H P hS=>y w H a ns i P hS) fun H e A=>z w H m e A
end L2
namespace L2
variable{F H H':Hp}{W:Wd}{K:Fg}{M M':Sto}{γ:Ga}
open PySem PySem.Spec PyProof.Rows
def gK(s:Stmt):Arguments:=match s with
 |.FunctionDef _ a _ _ _ _ _ _ _ _=>a
 |_=>{ posonlyargs:=[],args:=[],vararg:=Y,kwonlyargs:=[],kw_defaults:=[],kwarg:=Y,defaults:=[] }
noncomputable def cS(s:Stmt):Tb:=match s with
 |.FunctionDef _ _ b _ _ _ _ _ _ _=>b
 |_=>[]
noncomputable def aN(s:Stmt):Scope:=match s with
 |.FunctionDef _ _ _ _ _ _ sc _ _ _=>sc
 |_=>{ kind:=.function,names:=[],isGenerator:=false,isCoroutine:=false }
noncomputable abbrev CX0:CXT:=fun _ _ _ _ _ _=>False
noncomputable abbrev E0:XK:=fun _ _ _=>False
def aIj:MN CX0 X E0:=fun _ _ _ _ _ _ _ h=>h.elim
structure Fun(K:Fg)(x qual:Str)(st:Stmt)(f:Ud)(fd:FuncData):Prop where
 ex:∃(oc:Ua)(od:Tk)(kV doc pm:Ua)(an:Tk)(cdv ct:Ua)(osl:Array (Ti)),
  fd=PySem.W.fnOf x qual (gK st) (cS st) (aN st) .none kV doc pm an cdv ct/\K.lookup f=Z ⟨oc,od,.func fd,osl⟩/\PySem.W.codeIn K cdv qual=true
 kp:PySem.W.keepIn K (.ref f)=true
section
variable{P:Uf}{w:World}{K:Fg}{mg:Str->Ti}{base:Heap}
def Fun.ok{st:Stmt}{sp:Sp}{q:Bool}(F:Fun K x qual st f fd)(S:bC N ps (aN st))(len:∀vs H Q E,sp vs H Q E->vs.length=ps.length)
 (a:∀(cdv:Ua)(A:Ug)(outer:Tx Env)(s:Uc)(H:Hp)(vs:Tf)(Q:VK)(E:XK),eJ k (A.deeper (envOfC qual (aN st) s.heap.objs.size f cdv)) q->sp vs H Q E->
  ∃t,PSs (nZ CX0 P w K mg base N qual (aN st) f cdv A outer s H E q).nox (cS st) t/\t { nx:=fun _ H'=>Q .non H',rt:=Q } (start N vs) H):mY P w K mg base CX0 (k+1) f fd ps sp q:=by
 obtain⟨oc,od,kV,doc,pm,an,cdv,ct,osl,rfl,lk,b⟩:=F.ex;refine VD lk b S len fun A outer s H vs Q E d c=>?_;obtain⟨t,h,z⟩:=a cdv A outer s H vs Q E d c;exact⟨t,h.nox,z⟩
def Fun.binds{x qual:Str}{st:Stmt}{f:Ud}{fd:FuncData}{ps:Te}(F:Fun K x qual st f fd)
 (h:∀(kV doc pm:Ua)(an:Tk)(cdv ct:Ua)(us:T7),us.length=ps.length->bindArgs (PySem.W.fnOf x qual (gK st) (cS st) (aN st) .none kV doc pm an cdv ct) ⟨us,[]⟩=pure (ps.zip us)):Binds K fd ps []:=by
 obtain⟨oc,od,kV,doc,pm,an,cdv,ct,osl,rfl,lk,a⟩:=F.ex;exact .all (h kV doc pm an cdv ct)
def aGI{x qual:Str}{st:Stmt}{f:Ud}{oc:Ua}{od an:Tk}{osl:Array (Ti)}{kV doc pm cdv ct:Ua}(l:K.lookup f=Z ⟨oc,od,.func (PySem.W.fnOf x qual (gK st) (cS st) (aN st) .none kV doc pm an cdv ct),osl⟩)
 (c:PySem.W.codeIn K cdv qual=true) (k:PySem.W.keepIn K (.ref f)=true):Fun K x qual st f (PySem.W.fnOf x qual (gK st) (cS st) (aN st) .none kV doc pm an cdv ct):=⟨⟨oc,od,kV,doc,pm,an,cdv,ct,osl,rfl,l,c⟩,k⟩
end
def kH(H H':Hp):Prop:=∀b o,H b=Z o->H' b=Z o
def kH.refl(H:Hp):kH H H:=fun _ _ h=>h
def kH.trans(a:kH H d)(b:kH d e):kH H e:=fun c o h=>b c o (a c o h)
def kH.free(e:kH H H')(h:H' l=Option.none):H l=Option.none:=by
 cases q:H l with
 |none=>rfl
 |some o=>
  rw[e l o q]at h;cases h
def kH.seq(e:kH H H')(h:SqL K H a xs):SqL K H' a xs:=by
 rcases h with(h|⟨o,h⟩)|h
 .exact .inl (.inl (e _ _ h))
 .exact .inl (.inr ⟨o,e _ _ h⟩)
 .exact .inr h
noncomputable def dJ(env:Env):Tx (Tp)->Tx (Str×Ud)->Tx (Str×Ud)
 |[],cs=>cs
 |y::r,cs=>dJ env r (if (y.2==NameKind.free)=true then(y.1,(env.cells.lookup y.1).getD 0)::cs else cs)
def tD{env:Env}:∀(l:Tx (Tp))(cs:Tx (Str×Ud)),(∀y∈l,y.2=.free->∃c,env.cells.lookup y.1=Z c)->
 (forIn l cs fun(x:Tp)(r:Tx (Str×Ud))=>if (x.2==NameKind.free)=true then(do
  let a <- cellOf env x.1
  pure (ForInStep.yield ((x.1,a)::r)))else pure (ForInStep.yield r))=(pure (dJ env l cs):Sem (Tx (Str×Ud)))
 |[]=>fun cs _=>rfl
 |y::l=>fun cs h=>by
  rw[List.forIn_cons];by_cases b:(y.2==NameKind.free)=true
  .obtain⟨c,e⟩:=h y A9 (by simpa using b);have f:cellOf env y.1=pure c:=by unfold cellOf;rw[e]
   rw[A4 b,f];show(forIn l ((y.1,c)::cs) _:Sem _)=_;rw[tD l _ fun z d=>h z (B0 _ d)]
   conv=>rhs;unfold dJ
   rw[A4 b,e];rfl
  .rw[B2 b];show(forIn l cs _:Sem _)=_;rw[tD l _ fun z d=>h z (B0 _ d)]
   conv=>rhs;unfold dJ
   rw[B2 b]
def tP{scope:Scope}{env:Env}(h:∀y∈scope.names,y.2=.free->∃c,env.cells.lookup y.1=Z c):closureFor scope env=pure (dJ env scope.names []):=by
 have e:=tD (env:=env) scope.names [] h;unfold closureFor
 show((forIn scope.names ([]:Tx (Str×Ud)) fun(x:Tp)(r:Tx (Str×Ud))=>if (x.2==NameKind.free)=true then(do
  let a <- cellOf env x.1
  pure (ForInStep.yield ((x.1,a)::r)))else pure (ForInStep.yield r)) >>= fun z=>pure z:Sem (Tx (Str×Ud)))=_
 rw[e];rfl
def vV{env:Env}:∀(l:Tx (Tp))(cs:Tx (Str×Ud)),(∀y∈l,y.2=.free->∃c,env.cells.lookup y.1=Z c)->(∀x c,cs.lookup x=Z c->env.cells.lookup x=Z c)->
 ∀x c,(dJ env l cs).lookup x=Z c->env.cells.lookup x=Z c
 |[]=>fun cs _ h x c e=>h x c e
 |y::l=>fun cs j h x c e=>by
  unfold dJ at e;refine vV l _ (fun z f=>j z (B0 _ f)) ?_ x c e;intro z d a;by_cases i:(y.2==NameKind.free)=true
  .rw[A4 i]at a;obtain⟨c',g⟩:=j y A9 (by simpa using i);rw[g]at a;rw[F9]at a;by_cases f:(z==y.1)=true
   .rw[f]at a;have b:z=y.1:=by simpa using f
    rw[b,g];exact a
   .have b:(z==y.1)=false:=by simpa using f
    rw[b]at a;exact h z d a
  .rw[B2 i]at a;exact h z d a
def rN:∀(l:Tx (Tp))(cs:Tx (Str×Ud))(x:Str),((x,NameKind.free)∈l\/∃c,cs.lookup x=Z c)->∃c,(dJ env l cs).lookup x=Z c
 |[]=>fun cs x h=>by
  rcases h with h|h
  .exact absurd h (by simp)
  .exact h
 |y::l=>fun cs x h=>by
  unfold dJ;refine rN l _ x ?_;rcases h with h|⟨c,b⟩
  .rcases List.mem_cons.mp h with e|e
   .subst e;refine .inr ?_;rw[A4 (by rfl)];exact⟨(env.cells.lookup x).getD 0,by rw[F9];simp⟩
   .exact .inl e
  .refine .inr ?_;by_cases d:(y.2==NameKind.free)=true
   .rw[A4 d,F9];by_cases f:(x==y.1)=true
    .rw[f];exact⟨_,rfl⟩
    .have a:(x==y.1)=false:=by simpa using f
     rw[a];exact⟨c,b⟩
   .rw[B2 d];exact⟨c,b⟩
def sY{env:Env}:∀{names:Tx (Tp)}{x:Str}{k:NameKind},
 (names.map fun(y:Tp)=>if (y.2==NameKind.free&&env.scope.kind==.function&&env.kindOf y.1==Z .cell)=true then(y.1,NameKind.cell)else(y.1,y.2)).lookup x=Z k->
 (names.lookup x=Z k)\/(names.lookup x=Z .free/\k=.cell)
 |[],x,k=>fun h=>by simp at h
 |y::r,x,k=>fun h=>by
  rw[B6]at h;by_cases c:(x==y.1)=true
  .by_cases a:(y.2==NameKind.free&&env.scope.kind==.function&&env.kindOf y.1==Z .cell)=true
   .rw[A4 a,F9,c]at h;rw[F9,c];have:y.2=.free:=by simp at a;exact a.1.1
    refine .inr ⟨by rw[this],?_⟩;cases h;rfl
   .rw[B2 a,F9,c]at h;rw[F9,c];exact .inl h
  .have b:(x==y.1)=false:=by simpa using c
   have h':(r.map fun(y:Tp)=>if (y.2==NameKind.free&&env.scope.kind==.function&&env.kindOf y.1==Z .cell)=true then(y.1,NameKind.cell)else(y.1,y.2)).lookup x=Z k:=by
    by_cases a:(y.2==NameKind.free&&env.scope.kind==.function&&env.kindOf y.1==Z .cell)=true
    .rw[A4 a,F9,b]at h;exact h
    .rw[B2 a,F9,b]at h;exact h
   rw[F9,b];exact sY h'
def zT{env:Env}:∀{names:Tx (Tp)}{x:Str},names.lookup x=Z .free->
 (names.map fun(y:Tp)=>if (y.2==NameKind.free&&env.scope.kind==.function&&env.kindOf y.1==Z .cell)=true then(y.1,NameKind.cell)else(y.1,y.2)).lookup x=Z .cell \/
 (names.map fun(y:Tp)=>if (y.2==NameKind.free&&env.scope.kind==.function&&env.kindOf y.1==Z .cell)=true then(y.1,NameKind.cell)else(y.1,y.2)).lookup x=Z .free
 |[],x=>fun h=>by simp at h
 |y::r,x=>fun h=>by
  rw[B6];by_cases c:(x==y.1)=true
  .rw[F9,c]at h;have d:y.2=.free:=D7 h;by_cases b:(y.2==NameKind.free&&env.scope.kind==.function&&env.kindOf y.1==Z .cell)=true
   .rw[A4 b,F9,c];exact .inl rfl
   .rw[B2 b,F9,c];exact .inr (by rw[d])
  .have a:(x==y.1)=false:=by simpa using c
   rw[F9,a]at h;have ih:=zT (env:=env) h;by_cases b:(y.2==NameKind.free&&env.scope.kind==.function&&env.kindOf y.1==Z .cell)=true
   .rw[A4 b,F9,a];exact ih
   .rw[B2 b,F9,a];exact ih
def vO(X:Cx)(ifs:Ta)(t:TT):Prop:=
 ∀(pins:T2)(s:Uc)(a:St)(H:Hp)(Q:Bool->Hp->Prop),Inv X pins a H s->t a H Q->
  wpAny (model X.prog X.w) X.A (forIn ifs true fun c r=>if r=true then(do
   let ok <- isTrue c X.env (eval c X.env)
   pure (ForInStep.yield ok))else pure (ForInStep.yield r)) (TP X pins a Q) X.xe s
noncomputable def aHL:TT:=fun _ H Q=>Q true H
def aAB:vO X [] aHL:=fun _ _ _ H _ I h=>wpAny_tests_nil ⟨H,I,h⟩
def aBb(h:PT X c t):vO X [c] t:=fun pins s a H Q I b=>wpAny_tests_one (h pins s a H Q I b)
section
variable{prog:Uf}{w:World}{A:Ug}{R:Result->Uc->Prop}{s:Uc}
def aBB{iter:Ue}{scope:Scope}{acc:Ua}(I:Nat->Uc->Prop)
 (b:∀n s,I n s->wpAny (model prog w) A (pyNext it) (fun r s1=>(r=Y/\R (.ok .next) s1)\/∃v,r=Z v /\
  wpAny (model prog w) A (letOwnedTupleGo a it v) (fun _ s2=>wpAny (model prog w) A (assign a env v) (fun _ g=>
   wpAny (model prog w) A (forIn ifs true fun c r=>if r=true then(do
    let ok <- isTrue c env (eval c env)
    pure (ForInStep.yield ok))else pure (ForInStep.yield r)) (fun ok e=>
     (ok=true/\wpAny (model prog w) A (eval elt env) (fun x i=>wpAny (model prog w) A (call (.builtin "list.append") [acc,x]) (fun _ j=>∃m,m<n/\I m j) (fun _ _=>False) i) (fun _ _=>False) e) \/
     (ok=false/\∃m,m<n/\I m e)) (fun _ _=>False) g) (fun _ _=>False) s2) (fun _ _=>False) s1) (fun _ _=>False) s)
 (n:Nat) (h:I n s):codeAny (model prog w) A (.compLoop (.ListComp elt [⟨a,iter,ifs,0⟩] scope pos) 0 it acc env) R s:=by
 refine codeAny_loop rfl I (fun n s k=>?_) n h
 show wpAny _ A ((compTurn (.ListComp elt [⟨a,iter,ifs,0⟩] scope pos) 0 it acc env).onRaise fun x=>do
  noteFrame x env
  theTreesLotGoes x) _ _ s
 refine wpAny_noted ?_;rw[compTurn_list];refine A1 (Y6 (A1 (F8 (b n s k) (fun r s1 d=>?_) fun _ _ f=>f.elim)));rcases d with⟨rfl,d⟩|⟨v,rfl,d⟩
 .exact B5 d
 .refine A1 (F8 d (fun _ s2 l=>?_) fun _ _ f=>f.elim);refine A1 (F8 l (fun _ g o=>?_) fun _ _ f=>f.elim);refine A1 (F8 o (fun ok e h4=>?_) fun _ _ f=>f.elim);rcases h4 with⟨rfl,h4⟩|⟨rfl,h4⟩
  .refine A1 (A1 (F8 h4 (fun x i p=>?_) fun _ _ f=>f.elim));exact A1 (F8 p (fun _ j q=>B5 (B5 ⟨rfl,q⟩)) fun _ _ f=>f.elim)
  .exact B5 ⟨rfl,h4⟩
end
def cQ(X:Cx)(N':Te)(scope:Scope)(C:Ud)(s2:Uc)(a:Hp)(fp:Td)(pn:T2):Cx:=
 { X with N:=N',s₀:=s2,H₀:=a,env:=compEnvC scope (dJ X.env scope.names []) C X.env,outer:=X.stack,stack:=X.stack,ex:=fp,fn:=fun _=>false,pn:=X.pn++pn,xe:=fun _ _=>False }
noncomputable def yB(cap:T5)(a:St):St:=cap.map fun o=>o.bind fun j=>(a[j]?).join
structure nJ(X:Cx)(N':Te)(cap:T5)(scope:Scope):Prop where
 nocell:∀y∈scope.names,y.2≠.cell
 kind:scope.kind=.function
 names:∀y∈scope.names,y.2=.local->scope.names.lookup y.1=Z .local
 frees:∀y∈scope.names,y.2=.free->X.env.kindOf y.1=Z .cell\/X.env.kindOf y.1=Z .free
 len:cap.length=N'.length
 cap:∀(i j:Nat),cap[i]?=Z (Z j)->∃x,N'[i]?=Z x/\X.N[j]?=Z x/\scope.names.lookup x=Z .free
section
variable{X:Cx}{N':Te}{cap:T5}{scope:Scope}{pins:T2}{σ:St}{H:Hp}{s:Uc}
def nJ.cells(S:nJ X N' cap scope)(ok:X.Ok):∀y∈scope.names,y.2=.free->∃c,X.env.cells.lookup y.1=Z c:=fun y a b=>ok.has y.1 (S.frees y a b)
def nJ.sub(S:nJ X N' cap scope)(ok:X.Ok):∀x c,(dJ X.env scope.names []).lookup x=Z c->X.env.cells.lookup x=Z c:=
 vV scope.names [] (S.cells ok) fun x c e=>by simp at e
def nJ.kinds(S:nJ X N' cap scope)(h:(compEnvC scope cl C X.env).kindOf x=Z .cell\/(compEnvC scope cl C X.env).kindOf x=Z .free):scope.names.lookup x=Z .free:=by
 rcases h with h|h
 .rcases sY (names:=scope.names) h with q|⟨q,_⟩
  .exact absurd rfl (S.nocell _ (L9 q))
  .exact q
 .rcases sY (names:=scope.names) h with q|⟨q,_⟩
  .exact q
  .exact q
def Inv.stkAll(I:Inv X pins σ H s){b:Ud}(a:b≠X.env.locals)(c:b∉X.fs):b∉frs X.stack:=fun d=>(List.mem_cons.mp (I.stkSub b d)).elim a c
def JL(S:nJ X N' cap scope)(I:Inv X pins σ H s){fp:Td}{h4:Heap}{C:Ud}{tk:Nat}(A:∀b∈fp,pP X pins H b)(E:∀b∈fp,b<s.heap.objs.size)
 (B:s.heap.objs.size<=C) (hn:h4.Ns C fun _=>Y) (k:∀b o,s.heap.get? b=Z o->h4.get? b=Z o):
 Inv (cQ X N' scope C s H fp pins) [] (yB cap σ) H { s with heap:=h4,toks:=tk }:=by
 have D:∀x c,X.env.cells.lookup x=Z c->c<s.heap.objs.size:=fun x c e=>by
  obtain⟨v,q⟩:=I.cell x c e;exact q.lt
 have fresh:H C=Y:=I.hok.fresh B
 have ok:(cQ X N' scope C s H fp pins).Ok:=by
  refine⟨I.ok.mod,S.kind,I.ok.glob,I.ok.blt,B,fun x y c G J=>?_,fun x L=>?_,fun x c L _=>?_,I.ok.hd,I.ok.frames,.inl rfl,fun b g=>⟨?_,fun x c e=>?_⟩,I.bs,O7 I.ok.bsz I.sz,fun b o e g=>?_,fun b g=>?_,I.stack,I.stkFree⟩
  .exact I.ok.inj x y c (S.sub I.ok x c G) (S.sub I.ok y c J)
  .exact rN scope.names [] x (.inl (L9 (S.kinds L)))
  .exact absurd L (by show ¬(false=true);decide)
  .exact C8 (C4 (E b g) B)
  .exact(A b g).2.2.2.2.1 x c (S.sub I.ok x c e)
  .rcases (A b g).2.2.2.1 with z|z
   .exact I.ok.noex b o e z
   .exact absurd (C4 (B7 (I.ok.bs b o e).1) z) (L8 _)
  .exact I.stkAll (A b g).2.1 (A b g).2.2.1
 refine⟨ok,rfl,I.bare,Un.kept k,⟨_,hn,fun i x v G J h3=>?_⟩,fun x c e=>?_,fresh,fun x c e=>I.freeC x c (S.sub I.ok x c e),fun p R=>?_,I.hok.kept k,?_⟩
 .
  have a:(cap[i]?).map (fun o=>o.bind fun j=>(σ[j]?).join)=Z (Z v):=by
   have:(yB cap σ)[i]?=Z (Z v):=J;unfold yB at this;rw[D6]at this;exact this
  cases e:cap[i]? with
  |none=>rw[e]at a;simp at a
  |some o=>
   cases o with
   |none=>rw[e]at a;simp at a
   |some j=>
    rw[e]at a;obtain⟨h,T,U,N⟩:=S.cap i j e
    have ex:h=x:=by
     have:N'[i]?=Z x:=G;rw[T]at this;exact D7 this
    subst ex
    have V:σ[j]?=Z (Z v):=by
     have q:(σ[j]?).join=Z v:=D7 a;cases f:σ[j]? with
     |none=>rw[f]at q;simp at q
     |some o=>rw[f]at q;cases o with
      |none=>simp at q
      |some v'=>simp at q;rw[q]
    have Q:X.env.kindOf h=Z .cell\/X.env.kindOf h=Z .free:=S.frees _ (L9 N) rfl;obtain⟨m,hm,hl⟩:=I.loc;obtain⟨u,r,l⟩:=hl j h v U V (Q.elim (fun z=>.inr (.inl z)) fun z=>.inr (.inr z));refine⟨u,r,.inr ⟨?_,?_⟩⟩
    .exact zT (env:=X.env) (names:=scope.names) N
    .rcases l with⟨t,_⟩|⟨_,c,hc,o,O,hd⟩
     .rcases Q with z|z<;>rw[z]at t<;>cases t
     .obtain⟨c',w⟩:=rN (env:=X.env) scope.names [] h (.inl (L9 N));have:=S.sub I.ok h c' w;rw[hc]at this;cases this;exact⟨c,w,o,k c o O,hd⟩
 .obtain⟨v,o,O,hd⟩:=I.cell x c (S.sub I.ok x c e);exact⟨v,o,k c o O,hd⟩
 .have P:p∈X.pn++pins:=by
   rcases List.mem_append.mp R with z|z
   .exact z
   .exact absurd z (by simp)
  obtain⟨e,n,ne,nf,d⟩:=I.pin p P;exact⟨k _ _ e,n,C8 (C4 (B7 e) B),I.stkAll ne nf,d⟩
 .show(yB cap σ).length=N'.length;unfold yB;rw[A0];exact S.len
end
def tLc(cap:T5)(wi:TI)(g:TG)(k:TT)(l:TE):TE:=fun f H Q=>wi f H fun J n=>∃W:Nat->Nat->Tf->St->Hp->Prop,(∃m,W 0 m [] (yB cap f) n)/\∀i m acc d H',W i m acc d H'->
 (J.stop i H'/\∀p,H' p=Y->Q (.ref p) (upd H' p (.lst acc))) \/
 (J.go i H'/\acc.length<sizeLine/\∃N:Tf->St->Hp->Prop,(∀c a e,N c a e->∃h,h<m/\W (i+1) h c a e)/\∀x e,J.yld i H' x e->g x d e fun a o=>k a o fun b j=>(b=true/\l a j fun v q=>N (acc++[v]) a q)\/(b=false/\N acc a j))
section
variable{X:Cx}{N':Te}{cap:T5}{scope:Scope}
def YD{elt tg iter:Ue}{ifs:Ta}{pos:Pos}{wi:TI}{g:TG}{tc:TT}{te:TE}(hc:X.calm=true)(S:nJ X N' cap scope)(hi:PI X tg iter wi)
 (hg:∀C s H fp pn,PG (cQ X N' scope C s H fp pn) tg g) (ah:∀C s H fp pn,vO (cQ X N' scope C s H fp pn) ifs tc) (he:∀C s H fp pn,PE (cQ X N' scope C s H fp pn) elt te)
 (hs:∀x,foldedSetIterable iter X.env x=pure x) {pins:T2} {s:Uc} {σ:St} {H:Hp} {Q:VK} (I:Inv X pins σ H s) (h:tLc cap wi g tc te σ H Q)
 {use:Tz (Ua->Sem Unit)} {QQ:T1}
 (a8:∀(D C:Ud)(H':Hp)(acc:Tf)(U:Uc),D≠C->(∃m,U.heap.Ns C m)->(∀h',Heap.SameBut C U.heap h'->Inv X pins σ (upd H' D (.lst acc)) { U with heap:=h' })->pP X pins (upd H' D (.lst acc)) C->Q (.ref D) (upd H' D (.lst acc))->compPost (model X.prog X.w) X.A X.xe use QQ (.ref D) C (.ok .next) U):
 wpAny (model X.prog X.w) X.A (comprehension (.ListComp elt [⟨tg,iter,ifs,0⟩] scope pos) scope X.env (firstIterPos [⟨tg,iter,ifs,0⟩] pos) (newList []) false (firstIter [⟨tg,iter,ifs,0⟩] X.env) use) QQ X.xe s:=by
 refine wpAny_comprehension_free (e:=.ListComp elt [⟨tg,iter,ifs,0⟩] scope pos) (g:=⟨tg,iter,ifs,0⟩) (gs:=[]) rfl hs (tP (S.cells I.ok)) S.kind S.names ?_;refine thn (hi pins s σ H _ I h) fun v s1 h1=>thn h1 fun aw s2 h2=>?_;obtain⟨it,fp,tn,J,l,e,O,T,a2,P,W,⟨m0,w0⟩,a9⟩:=h2;subst e
 have j:∀b∈fp,b<s2.heap.objs.size:=fun b a=>by
  obtain⟨o,e,_⟩:=T.obj _ _ a2 b a;exact B7 e
 refine J7 (wpAny_newFunctionEnv S.nocell (fun y hy=>by simp at hy) (fun t a3 a4=>?_) S.kind);dsimp only at a3 a4 ⊢;generalize hP:s2.heap.push { cls:=.type "list",dict:=Y,data:=.seq ([]:T7).toArray }=P2 at a3 a4 ⊢;have aa:P2.objs.size=s2.heap.objs.size+1:=by rw[<- hP,A0k]
 have k:s2.heap.objs.size≠P2.objs.size:=by rw[aa];exact C8 (A0y _)
 have hC:s2.heap.objs.size<=P2.objs.size:=by rw[aa];exact A1d _
 have B:∀b o,P2.get? b=Z o->b≠P2.objs.size->t.get? b=Z o:=fun b o e a=>a4.extBut b o a (A3 _ e);have a5:∀b o,s2.heap.get? b=Z o->t.get? b=Z o:=fun b o e=>B b o (by rw[<- hP];exact A3 _ e) (C8 (C4 (B7 e) hC));have ai:t.get? s2.heap.objs.size=Z { cls:=.type "list",data:=.seq #[] 0 }:=B _ _ (by rw[<- hP];exact C6 _ rfl) k
 have I4:Inv (cQ X N' scope P2.objs.size s2 l fp pins) [] (yB cap σ) l { s2 with heap:=t,toks:=s2.toks+([]:Tv).length }:=
  JL S O P j hC (by simpa using a3) a5
 have a0:∀s4:Uc,s4={ s2 with heap:=t,toks:=s2.toks+([]:Tv).length }->
  codeAny (model X.prog X.w) X.A (.compLoop (.ListComp elt [⟨tg,iter,ifs,0⟩] scope pos) 0 (.ref it) (.ref s2.heap.objs.size) (compEnvC scope (dJ X.env scope.names []) P2.objs.size X.env)) (compPost (model X.prog X.w) X.A X.xe use QQ (.ref s2.heap.objs.size) P2.objs.size) s4:=by
  rintro s4 rfl
  have ab:s2.heap.objs.size∉frs X.stack:=fun a=>by
   obtain⟨_,o,ho,_⟩:=O.stack.mem a;exact absurd (B7 ho) (L8 _)
  have cne:∀x c,(dJ X.env scope.names []).lookup x=Z c->c<s2.heap.objs.size:=fun x c e=>by
   obtain⟨v,q⟩:=O.cell x c (S.sub O.ok x c e);exact q.lt
  have E:∀{Hx:Hp}{ob:Obj},(∀b∈fp,Hx b=Y)->∀b∈fp,pP (cQ X N' scope P2.objs.size s2 l fp pins) [(s2.heap.objs.size,ob)] Hx b:=fun{Hx ob} hn b a=>by
   refine⟨hn b a,C8 (C4 (j b a) hC),O.stkAll (P b a).2.1 (P b a).2.2.1,.inl a,fun x c e=>(P b a).2.2.2.2.1 x c (S.sub O.ok x c e),fun p G=>?_⟩;rcases List.mem_append.mp G with z|z
   .exact(P b a).2.2.2.2.2 p z
   .rw[List.mem_singleton.mp z];exact A0t (j b a)
  refine aBB (fun n U=>∃(i:Nat)(f:St)(H':Hp)(acc:Tf)(d:T7)(nn:Nat),Inv (cQ X N' scope P2.objs.size s2 l fp pins) [] f H' U/\tn i U.heap/\(∀b∈fp,H' b=Y)/\H' s2.heap.objs.size=Y /\
   U.heap.get? s2.heap.objs.size=Z { cls:=.type "list",data:=.seq d.toArray nn }/\bH acc d/\acc.length<=sizeLine/\W i n acc f H') ?_ m0
   ⟨0,yB cap σ,l,[],[],0,I4,T.keep _ _ _ a2 fun b _ o e=>a5 b o e,fun b a=>(P b a).1,O.hok.fresh (B4 _),ai,.nil,E9 _,w0⟩
  rintro n s5 ⟨i,f,H',acc,d,nn,I5,t5,ac,d5,g5,va,la,w5⟩
  have I5p:Inv (cQ X N' scope P2.objs.size s2 l fp pins) [(s2.heap.objs.size,{ cls:=.type "list",data:=.seq d.toArray nn })] f H' s5:=I5.pins_of fun p G=>by
   rw[List.mem_singleton.mp G];exact⟨g5,d5,k,ab,fun v z=>by cases z⟩
  rcases a9 i n acc f H' w5 with⟨stop,q⟩|⟨go,lt,N,hN,step⟩
  .refine thn (T.done (cQ X N' scope P2.objs.size s2 l fp pins) rfl rfl rfl hc i _ s5 f H' _ I5p (E ac) t5 stop) fun r s6 ⟨hr,I6⟩=>.inl ⟨hr,?_⟩;have d6:=(I6.pin (s2.heap.objs.size,{ cls:=.type "list",data:=.seq d.toArray nn }) (by simp)).1;have nC:H' P2.objs.size=Y:=I6.free;refine a8 _ _ H' acc s6 k (let⟨m,hn,_⟩:=I6.loc;⟨m,hn⟩) (fun h' a6=>?_) (O.fpOk hC (by rw[aU k.symm];exact nC)) (q _ d5);have up:∀b o,b≠P2.objs.size->s6.heap.get? b=Z o->h'.get? b=Z o:=fun b o a e=>a6.extBut b o a e;have R:∀b o,s2.heap.get? b=Z o->b≠P2.objs.size/\b≠s2.heap.objs.size:=fun b o e=>⟨C8 (C4 (B7 e) hC),C8 (B7 e)⟩;have u6:Un (frs X.stack) fp l H' s2.heap s6.heap:=I6.base
   have u7:Un (frs X.stack) fp l (upd H' s2.heap.objs.size (.lst acc)) s2.heap h':=by
    refine⟨fun b o e n a hx=>up b o (R b o e).1 (u6.keep b o e n a hx),fun b o e n a hx=>?_,fun b o e n hx=>?_,fun b o e hx=>?_,fun b xs e=>?_,fun b o u e=>?_,fun b ps e=>?_⟩
    .obtain⟨sl,q⟩:=u6.slot b o e n a hx;exact⟨sl,up b _ (R b o e).1 q⟩
    .rw[aU (R b o e).2];exact u6.free b o e n hx
    .obtain⟨o',q⟩:=u6.there b o e hx;exact⟨o',up b o' (R b o e).1 q⟩
    .have z:=u6.tups b xs e;rw[aU (aW z d5)];exact z
    .have z:=u6.frzs b o u e;rw[aU (aW z d5)];exact z
    .obtain⟨more,z⟩:=u6.tbls b ps e;exact⟨more,by rw[aU (aW z d5)];exact z⟩
   have aj:HOk X.prog X.w (upd H' s2.heap.objs.size (.lst acc)) h':=fun b u e=>by
    by_cases a:b=s2.heap.objs.size
    .subst a;rw[bA]at e;cases e;exact⟨la,d,nn,va,up _ _ k d6⟩
    .rw[aU a]at e;refine(I6.hok b u e).stay (fun c v ak z=>up c v ?_ z) (fun c z=>by rw[aU (aW z d5)];exact z) fun c xs z=>by rw[aU (aW z d5)];exact z
     rcases ak with rfl|z
     .exact aW e nC
     .exact aW z nC
   have am:s6.os=s2.os:=I6.os;have ao:=I6.bare;obtain⟨hh,gg,dd,tt,oo⟩:=s6;subst am;have z7:=O.call (s:=s2) (h':=h') (g':=gg) (d':=dd) (t':=tt) (ch:=fp) u7 aj ao fun b a=>⟨(P b a).2.2.2.1,(P b a).2.1,(P b a).2.2.2.2.1,(P b a).2.2.2.2.2⟩;exact z7
  .refine thn (T.item (cQ X N' scope P2.objs.size s2 l fp pins) rfl rfl rfl hc i _ s5 f H' _ I5p (E ac) t5 go) fun r s6 ⟨u,hr,h6⟩=>.inr ⟨u,hr,?_⟩;refine thn h6 fun _ s7 ⟨x,H7,I7,r7,y7,t7,ap⟩=>?_;have aq:=I7.pinned (E ap) (T.obj _ _ t7)
   have a1:∀{ae:St}{Hx:Hp}{sx:Uc},Inv (cQ X N' scope P2.objs.size s2 l fp pins) ([(s2.heap.objs.size,{ cls:=.type "list",data:=.seq d.toArray nn })]++qZ fp s7.heap) ae Hx sx->
    (∀b∈fp,∀o,s7.heap.get? b=Z o->sx.heap.get? b=Z o)/\(∀b∈fp,Hx b=Y)/\sx.heap.get? s2.heap.objs.size=Z { cls:=.type "list",data:=.seq d.toArray nn }/\Hx s2.heap.objs.size=Y:=fun{ae Hx sx} Ix=>by
    refine⟨fun b a o e=>(Ix.pin (b,o) (B3 _ (B3 _ (eK a e)))).1,fun b a=>?_,?_,?_⟩
    .obtain⟨o,e,_⟩:=T.obj _ _ t7 b a;exact(Ix.pin (b,o) (B3 _ (B3 _ (eK a e)))).2.1
    .exact(Ix.pin (s2.heap.objs.size,_) (B3 _ (D4 _ (List.mem_singleton.mpr rfl)))).1
    .exact(Ix.pin (s2.heap.objs.size,{ cls:=.type "list",data:=.seq d.toArray nn }) (B3 _ (D4 _ (List.mem_singleton.mpr rfl)))).2.1
   refine thn (hg _ _ _ _ _ _ s7 f H7 x u _ aq r7 (step x H7 y7)) fun _ s8 ⟨L,H8,I8,q8⟩=>?_;refine thn (ah _ _ _ _ _ _ s8 L H8 _ I8 q8) fun b s9 ⟨H9,I9,q9⟩=>?_;rcases q9 with⟨rfl,q9⟩|⟨rfl,n9⟩
   .refine .inl ⟨rfl,thn (he _ _ _ _ _ _ s9 L H9 _ I9 q9) fun uv a7 ⟨v,af,ag,rv,ar⟩=>?_⟩;obtain⟨m',hm,au⟩:=hN _ _ _ ar;obtain⟨b1,b2,b3,b4⟩:=a1 ag;refine wpAny_list_append_plain ⟨nn,b3⟩ (fun h' G a6=>?_) (by rw[C5,<- va.length];exact la);obtain⟨n2,e2⟩:=G;have up:∀b o,b≠s2.heap.objs.size->a7.heap.get? b=Z o->h'.get? b=Z o:=fun b o a e=>a6.extBut b o a e;have I10':Inv (cQ X N' scope P2.objs.size s2 l fp pins) [] L af a7:=ag.pins_of fun p G=>absurd G (by simp);refine⟨m',hm,i+1,L,af,acc++[v],d++[uv],n2,I10'.turned (t':=a7.toks) up b4 k (.inr (B4 _)) (fun x c e=>C8 (cne x c e)) (fun p G=>?_),T.keep _ _ _ t7 fun b a o e=>up b o (C8 (j b a)) (b1 b a o e),b2,b4,?_,va.append (.cons rv .nil),?_,au⟩
    .have av:p∈X.pn++pins:=by
      rcases List.mem_append.mp G with z|z
      .exact z
      .exact absurd z (by simp)
     exact C8 (B7 (O.pin p av).1)
    .rw[e2];simp
    .rw[A6,E7];exact lt
   .obtain⟨m',hm,w9⟩:=hN _ _ _ n9;obtain⟨b1,b2,b3,b4⟩:=a1 I9;exact .inr ⟨rfl,m',hm,i+1,L,H9,acc,d,nn,I9.pins_of fun p G=>absurd G (by simp),T.keep _ _ _ t7 b1,b2,b4,b3,va,la,w9⟩
 exact codeAny_compStart_list (a0 _ rfl) (T.self _ 0 _ _ _ (T.keep _ _ _ a2 fun b _ o e=>a5 b o e) (a0 _ rfl))
def YH(e:X.calm=true)(S:nJ X N' cap scope)(hi:PI X tg iter wi)
 (f:∀C s H fp pn,PG (cQ X N' scope C s H fp pn) tg g) (a:∀C s H fp pn,vO (cQ X N' scope C s H fp pn) ifs c) (i:∀C s H fp pn,PE (cQ X N' scope C s H fp pn) elt d)
 (hs:∀x,foldedSetIterable iter X.env x=pure x:=by intro _;rfl):PE X (.ListComp elt [⟨tg,iter,ifs,0⟩] scope pos) (tLc cap wi g c d):=by
 intro pins s n H Q I h;rw[eval_ListComp];refine YD (use:=Y) (Q:=Q) e S hi f a i hs I h fun D C H' acc o j ⟨m,hn⟩ k _ l=>⟨m,hn,fun h' b=>?_⟩;exact⟨.ref D,_,k h' b,rfl,l⟩
def HW{i:Nat}{x:Str}{elt tg iter:Ue}{ifs:Ta}{pos c d:Pos}{wi:TI}{g:TG}{G:TT}{J:TE}(O:X.N.Nodup)(k:X.N[i]?=Z x)(P:X.calm=true)(S:nJ X N' cap scope)(hi:PI X tg iter wi)
 (R:∀C s H fp pn,PG (cQ X N' scope C s H fp pn) tg g) (l:∀C s H fp pn,vO (cQ X N' scope C s H fp pn) ifs G) (T:∀C s H fp pn,PE (cQ X N' scope C s H fp pn) elt J)
 (n:swapsWith (.ListComp elt [⟨tg,iter,ifs,0⟩] scope pos) (Z (.Name x c)) d.line X.env=pure true:=by rfl) (L:X.env.scope.names.lookup x=Z .local:=by rfl)
 (hs:∀x,foldedSetIterable iter X.env x=pure x:=by intro _;rfl):PS X (.Assign [.Name x c] (.ListComp elt [⟨tg,iter,ifs,0⟩] scope pos) d) (WQ (tLc cap wi g G J) (zC i)):=by
 intro pins s p H D I h;rw[exec_Assign_Name_used _ _ _ _ n];refine A1 (Y6 (A1 ?_));show wpAny _ _ (comprehension (.ListComp elt [⟨tg,iter,ifs,0⟩] scope pos) scope X.env _ (newList []) false (firstIter [⟨tg,iter,ifs,0⟩] X.env) (Z (assign (.Name x c) X.env)) >>= fun _=>pure ()) _ _ s;refine A1 (thn (YD (use:=Z (assign (.Name x c) X.env)) (QQ:=fun _ f=>∃j H',Inv X pins j H' f/\D.nx j H') (Q:=fun v U=>zC i v p U D.nx) P S hi R l T hs I h fun E C H' acc f V ⟨m,hn⟩ hI fC hq=>?_) fun _ f hz=>B5 (B5 hz));have q:Inv X pins p (upd H' E (.lst acc)) f:=hI f.heap (Heap.SameBut.refl ..);have q:Inv X pins p (upd H' E (.lst acc)) f:=q;refine wpAny_assign_Name (wJ (M:=model X.prog X.w) (A:=X.A) (E:=X.xe) q O k (.inl L) (v:=.ref E) (u:=.ref E) rfl (fun s2 I2 r=>?_) (.inr L));obtain⟨a,t,ha⟩:=r
 have y:C≠a:=by
  rcases ha with z|z
  .rw[z];exact fC.2.1
  .exact fun w=>fC.2.2.2.2.1 x a z w.symm
 refine⟨m,hn.extBut t.extBut y,fun h' B=>?_⟩;exact⟨_,_,I2.turned (t':=s2.toks) (fun b o hb e=>B.extBut b o hb e) fC.1 fC.2.1 fC.2.2.2.1 fC.2.2.2.2.1 fC.2.2.2.2.2,hq⟩
end
noncomputable def aJk:Key->Ub
 |.inl i=>.int i
 |.inr x=>.str x
mutual
noncomputable def Rep(K:Fg)(H:Hp):Ub->V->Prop
 |.none,v=>v=.non
 |.bool b,v=>v=.bl b
 |.int i,v=>v=.int i
 |.str x,v=>v=.str x
 |.list xs,v=>∃a vs,v=.ref a/\SqL K H a vs/\aL K H xs vs
 |.tuple xs,v=>∃a vs,v=.ref a/\SqT K H a vs/\aL K H xs vs
 |.dict kvs,v=>∃a ks,v=.ref a/\H a=Z (.dK ks)/\rB K H kvs ks
noncomputable def aL(K:Fg)(H:Hp):T6->Tf->Prop
 |[],vs=>vs=[]
 |d::ds,vs=>∃v r,vs=v::r/\Rep K H d v/\aL K H ds r
noncomputable def rB(K:Fg)(H:Hp):Tx (Ub×Ub)->Tx (Key×V)->Prop
 |[],ks=>ks=[]
 |(k,d)::kvs,ks=>∃c v r,ks=(c,v)::r/\k=aJk c/\Rep K H d v/\rB K H kvs r
end
def kH.seqT(e:kH H H')(h:SqT K H a xs):SqT K H' a xs:=by
 rcases h with h|h
 .refine .inl ?_;rcases h with h|⟨o,h⟩
  .exact .inl (e _ _ h)
  .exact .inr ⟨o,e _ _ h⟩
 .exact .inr h
mutual
def Rep.same{K:Fg}{H H':Hp}(e:kH H H'):∀(d:Ub)(v:V),Rep K H d v->Rep K H' d v
 |.none=>fun v h=>h
 |.bool b=>fun v h=>h
 |.int i=>fun v h=>h
 |.str x=>fun v h=>h
 |.list xs=>fun v h=>by
  obtain⟨a,vs,c,f,g⟩:=h;exact⟨a,vs,c,e.seq f,aL.same e xs vs g⟩
 |.tuple xs=>fun v h=>by
  obtain⟨a,vs,c,f,g⟩:=h;exact⟨a,vs,c,e.seqT f,aL.same e xs vs g⟩
 |.dict kvs=>fun v h=>by
  obtain⟨a,ks,c,f,g⟩:=h;exact⟨a,ks,c,e _ _ f,rB.same e kvs ks g⟩
def aL.same{K:Fg}{H H':Hp}(e:kH H H'):∀(ds:T6)(vs:Tf),aL K H ds vs->aL K H' ds vs
 |[]=>fun vs h=>h
 |d::ds=>fun vs h=>by
  obtain⟨v,r,c,f,g⟩:=h;exact⟨v,r,c,Rep.same e d v f,aL.same e ds r g⟩
def rB.same{K:Fg}{H H':Hp}(e:kH H H'):∀(kvs:Tx (Ub×Ub))(ks:Tx (Key×V)),rB K H kvs ks->rB K H' kvs ks
 |[]=>fun ks h=>h
 |(k,d)::kvs=>fun ks h=>by
  obtain⟨j,v,r,c,f,g,h4⟩:=h;exact⟨j,v,r,c,f,Rep.same e d v g,rB.same e kvs r h4⟩
end
def aL.length{K:Fg}{H:Hp}:∀{ds:T6}{vs:Tf},aL K H ds vs->ds.length=vs.length
 |[],vs=>fun h=>by rw[show vs=[]from h];rfl
 |d::ds,vs=>fun h=>by
  obtain⟨v,r,a,_,b⟩:=h;rw[a,L7,L7,aL.length b]
def aL.get{K:Fg}{H:Hp}:∀{ds:T6}{vs:Tf}{i:Nat}{v:V},aL K H ds vs->vs[i]?=Z v->∃d,ds[i]?=Z d/\Rep K H d v
 |[],vs,i,v=>fun h e=>by rw[show vs=[]from h]at e;simp at e
 |d::ds,vs,0,v=>fun h e=>by
  obtain⟨w,r,a,b,c⟩:=h;rw[a]at e;simp at e;subst e;exact⟨d,rfl,b⟩
 |d::ds,vs,i+1,v=>fun h e=>by
  obtain⟨w,r,a,b,c⟩:=h;rw[a]at e;exact aL.get (i:=i) c (by simpa using e)
def aL.app{K:Fg}{H:Hp}:∀{ds es:T6}{vs ws:Tf},aL K H ds vs->aL K H es ws->aL K H (ds++es) (vs++ws)
 |[],es,vs,ws=>fun h k=>by rw[show vs=[]from h];exact k
 |d::ds,es,vs,ws=>fun h k=>by
  obtain⟨v,r,a,b,c⟩:=h;exact⟨v,r++ws,by rw[a];rfl,b,aL.app c k⟩
section
variable{X:Cx}{pins:T2}{σ:St}{H:Hp}{s:Uc}
def Inv.sysN(I:Inv X pins σ H s):H sysModules=Y:=by
 obtain⟨o,es,ep,h,_⟩:=I.mod.sysm;exact(I.bs _ _ h).2
def Inv.sysL(I:Inv X pins σ H s)(h:SqL X.K H a xs):sysModules≠a:=by
 intro e;subst e;have hn:=I.sysN;rcases h with(h|⟨o,h⟩)|⟨o,c,n,d,_,_,hd,_⟩
 .rw[hn]at h;cases h
 .rw[hn]at h;cases h
 .obtain⟨o',es,ep,h',b⟩:=I.mod.sysm;have:=I.mod.kin _ _ d;rw[h']at this;cases this;rw[hd]at b;cases b
mutual
def Rep.reads'(I:Inv X pins σ H s):∀(d:Ub)(v:V)(u:Ua),Rep X.K H d v->RelV v u->∃as,Reads s.heap u d as/\sysModules∉as
 |.none=>fun v u r q=>by
  rw[show v=.non from r]at q;rw[show u=Value.none from q];exact⟨_,.none,by simp⟩
 |.bool b=>fun v u r q=>by
  rw[show v=.bl b from r]at q;rw[show u=Value.bool b from q];exact⟨_,.bool b,by simp⟩
 |.int i=>fun v u r q=>by
  rw[show v=.int i from r]at q;obtain⟨t,rfl⟩:=(show ∃t,u=Value.int i t from q);exact⟨_,.int i t,by simp⟩
 |.str x=>fun v u r q=>by
  rw[show v=.str x from r]at q;obtain⟨t,rfl⟩:=(show ∃t,u=Value.str x t from q);exact⟨_,.str x t,by simp⟩
 |.list xs=>fun v u r q=>by
  obtain⟨a,vs,rfl,c,f⟩:=r;rw[show u=Value.ref a from q];obtain⟨g,A,⟨o,n,h,j,_,hd⟩,_⟩:=I.list c;obtain⟨as,ha,hs⟩:=aL.reads' I xs vs g f A;exact⟨_,.list h j hd (by simpa using ha),fun z=>(List.mem_cons.mp z).elim (I.sysL c) hs⟩
 |.tuple xs=>fun v u r q=>by
  obtain⟨a,vs,rfl,c,f⟩:=r;rw[show u=Value.ref a from q];obtain⟨g,A,⟨o,h,j,n,hd⟩,_⟩:=I.tuple c;obtain⟨as,ha,hs⟩:=aL.reads' I xs vs g f A;exact⟨_,.tuple h j hd (by simpa using ha),hs⟩
 |.dict kvs=>fun v u r q=>by
  obtain⟨a,ks,rfl,c,f⟩:=r;rw[show u=Value.ref a from q];obtain⟨_,hS,vs,B,o,es,ep,h,C,hd,_,N,_⟩:=(show gM X.prog X.w H s.heap a (.dK ks)from I.hok a _ c);obtain⟨as,bs,h4,O,n1,n2⟩:=rB.reads' I kvs ks vs es.toList f B N;refine⟨_,.dict h C.1 hd h4 O,fun z=>?_⟩;rcases List.mem_append.mp z with z|z
  .rcases List.mem_cons.mp z with z|z
   .rw[z]at hS;simp at hS
   .exact n1 z
  .exact n2 z
def aL.reads'(I:Inv X pins σ H s):∀(ds:T6)(vs:Tf)(us:T7),aL X.K H ds vs->bH vs us->∃as,ReadsAll s.heap us ds as/\sysModules∉as
 |[]=>fun vs us r q=>by
  rw[show vs=[]from r]at q;cases q;exact⟨_,.nil,by simp⟩
 |d::ds=>fun vs us r q=>by
  obtain⟨v,t,rfl,c,f⟩:=r;cases q with
  |cons y D=>
   obtain⟨as,ha,n1⟩:=Rep.reads' I d v _ c y;obtain⟨bs,E,n2⟩:=aL.reads' I ds t _ f D;exact⟨_,.cons ha E,fun z=>(List.mem_append.mp z).elim n1 n2⟩
def rB.reads'(I:Inv X pins σ H s):∀(kvs:Tx (Ub×Ub))(ks:Tx (Key×V))(vs:Tx (Key×Ua))(es:Tx DictEntry),rB X.K H kvs ks->KV ks vs->Pairs (uS X.prog X.w) es vs->
 ∃as bs,ReadsAll s.heap (es.map (·.key)) (kvs.map (·.1)) as/\ReadsAll s.heap (es.map (·.val)) (kvs.map (·.2)) bs/\sysModules∉as/\sysModules∉bs
 |[]=>fun ks vs es r q p=>by
  rw[show ks=[]from r]at q;cases q;cases p;exact⟨_,_,.nil,.nil,by simp,by simp⟩
 |(k,d)::kvs=>fun ks vs es r q p=>by
  obtain⟨P,v,t,rfl,Q,c,f⟩:=r;cases q with
  |@cons _ L _ R y D=>
   cases p with
   |@cons e _ S _ T U p3=>
    obtain⟨as,bs,ha,E,n1,n2⟩:=rB.reads' I kvs t _ _ f D p3;obtain⟨cs,j,n3⟩:=Rep.reads' I d v _ c y.2
    have l:Reads s.heap e.key k []:=by
     rw[Q];have m:ZW L.1 e.key=true:=T;rw[<- show P=L.1 from y.1]at m;rcases dN m with⟨i,G,rfl,J⟩|⟨x,G,rfl,J⟩
     .rw[J];exact .int i G
     .rw[J];exact .str x G
    refine⟨_,_,.cons l ha,.cons (show Reads s.heap e.val d cs by rw[U];exact j) E,by simpa using n1,fun z=>(List.mem_append.mp z).elim n3 n2⟩
end
def Rep.reads(I:Inv X pins σ H s)(d:Ub)(v:V)(u:Ua)(r:Rep X.K H d v)(q:RelV v u):∃as,Reads s.heap u d as:=let⟨as,h,_⟩:=Rep.reads' I d v u r q;⟨as,h⟩
def aL.reads(I:Inv X pins σ H s)(ds:T6)(vs:Tf)(us:T7)(r:aL X.K H ds vs)(q:bH vs us):∃as,ReadsAll s.heap us ds as:=let⟨as,h,_⟩:=aL.reads' I ds vs us r q;⟨as,h⟩
end
section
variable{X:Cx}
def JG(K:Fg)(neg:Bool):R2:=fun x y H Q=>∃dx a,Rep K H dx x/\Rep K H a y/\SeqAt.shaped dx=true/\SeqAt.shaped a=true/\Q (.bl (if neg then !PyData.eqv dx a else PyData.eqv dx a)) H
def aAk(a:X.A.units+64<cLine):OpR X (compareOp .Eq) (JG X.K false):=by
 intro pins s k H x y v u Q I b c h;obtain⟨dx,d,e,f,g,i,q⟩:=h;obtain⟨as,ha⟩:=Rep.reads I dx x v e b;obtain⟨bs,j⟩:=Rep.reads I d y u f c;exact eq_dataH ha j g i a ⟨.bl _,H,I,rfl,q⟩
def aAX(a:X.A.units+64<cLine):OpR X (compareOp .NotEq) (JG X.K true):=by
 intro pins s k H x y v u Q I b c h;obtain⟨dx,d,e,f,g,i,q⟩:=h;obtain⟨as,ha⟩:=Rep.reads I dx x v e b;obtain⟨bs,j⟩:=Rep.reads I d y u f c;exact ne_dataH ha j g i a ⟨.bl _,H,I,rfl,q⟩
open Classical in
noncomputable def rW(h:Heap)(dv:Ub)(u:Ua):Bool:=if ∃d as,Reads h u d as/\PyData.eqv d dv=true then true else false
def aBP(r:Reads h u d as)(b:d.canLay0=true):rW h dv u=PyData.eqv d dv:=by
 unfold rW;by_cases e:PyData.eqv d dv=true
 .rw[A4 ⟨d,as,r,e⟩,e]
 .rw[B2,Bool.eq_false_iff.mpr e];rintro⟨c,a,f,g⟩;have:=SeqAt.Reads.unique d c u as a b r f;subst this;exact e g
def qK{A:Ug}{s:Uc}(b:Reads s.heap v dv h)(c:SeqAt.shaped dv=true)(f:A.units+64<cLine):
 ∀(us:T7)(ds:T6)(as:Td),ReadsAll s.heap us ds as->ds.all SeqAt.shaped=true->(∀y∈us,SeqAt.EqAt A s y v (rW s.heap dv y))/\us.any (rW s.heap dv)=ds.any fun d=>PyData.eqv d dv
 |[]=>fun ds as r _=>by
  cases r;exact⟨fun y a=>absurd a (by simp),rfl⟩
 |y::us=>fun ds as r hs=>by
  cases r with
  |@cons _ _ d i j k g l=>
   rw[A1b,B8]at hs;obtain⟨m,n⟩:=qK b c f us _ _ l hs.2;have e:=aBP (dv:=dv) g (U4 hs.1);have a:SeqAt.EqAt A s y v (PyData.eqv d dv):=SeqAt.eqAt_reads d dv A s y v _ _ g b (U4 hs.1) (U4 c) (SeqAt.room_of_shaped hs.1 f);refine⟨fun z o=>?_,by rw[List.any_cons,List.any_cons,e,n]⟩;rcases List.mem_cons.mp o with q|q
   .rw[q,e];exact a
   .exact m z q
def UJ(K:Fg)(neg:Bool):R2:=fun x y H Q=>∃dx ds p vs,Rep K H dx x/\y=.ref p/\(SqL K H p vs\/SqT K H p vs)/\aL K H ds vs/\SeqAt.shaped dx=true/\ds.all SeqAt.shaped=true /\
 Q (.bl (if neg then !ds.any fun d=>PyData.eqv d dx else ds.any fun d=>PyData.eqv d dx)) H
def aFL(i:X.A.in1.units+64<cLine):OpR X (compareOp .In) (UJ X.K false):=by
 intro pins s o H x y v u Q I k l h;obtain⟨dx,ds,p,vs,m,rfl,hp,hds,j,b,q⟩:=h;cases l;obtain⟨as,ha⟩:=Rep.reads I dx x v m k;rcases hp with hp|hp
 .obtain⟨a,r,c,n⟩:=I.list hp;obtain⟨bs,d⟩:=aL.reads I ds vs a hds r;obtain⟨e,f⟩:=qK (A:=X.A.in1) ha j i a ds bs d b;refine SeqAt.in_listAt (rW s.heap dx) c.isList (fun w g=>e w (by simpa using g)) ⟨.bl _,H,I,rfl,?_⟩;rw[show a.toArray.any (rW s.heap dx)=a.any (rW s.heap dx)by simp,f];exact q
 .obtain⟨a,r,c,n⟩:=I.tuple hp;obtain⟨bs,d⟩:=aL.reads I ds vs a hds r;obtain⟨e,f⟩:=qK (A:=X.A.in1) ha j i a ds bs d b;refine SeqAt.in_tupleAt (rW s.heap dx) c (fun w g=>e w (by simpa using g)) ⟨.bl _,H,I,rfl,?_⟩;rw[show a.toArray.any (rW s.heap dx)=a.any (rW s.heap dx)by simp,f];exact q
def SL(i:X.A.in1.units+64<cLine):OpR X (compareOp .NotIn) (UJ X.K true):=by
 intro pins s o H x y v u Q I k l h;obtain⟨dx,ds,p,vs,m,rfl,hp,hds,j,b,q⟩:=h;cases l;obtain⟨as,ha⟩:=Rep.reads I dx x v m k;rcases hp with hp|hp
 .obtain⟨a,r,c,n⟩:=I.list hp;obtain⟨bs,d⟩:=aL.reads I ds vs a hds r;obtain⟨e,f⟩:=qK (A:=X.A.in1) ha j i a ds bs d b;refine SeqAt.notIn_listAt (rW s.heap dx) c.isList (fun w g=>e w (by simpa using g)) ⟨.bl _,H,I,rfl,?_⟩;rw[show a.toArray.any (rW s.heap dx)=a.any (rW s.heap dx)by simp,f];exact q
 .obtain⟨a,r,c,n⟩:=I.tuple hp;obtain⟨bs,d⟩:=aL.reads I ds vs a hds r;obtain⟨e,f⟩:=qK (A:=X.A.in1) ha j i a ds bs d b;refine SeqAt.notIn_tupleAt (rW s.heap dx) c (fun w g=>e w (by simpa using g)) ⟨.bl _,H,I,rfl,?_⟩;rw[show a.toArray.any (rW s.heap dx)=a.any (rW s.heap dx)by simp,f];exact q
def bH.types:∀{Ts:Tx String}{a:T7},bH (Ts.map V.ty) a->a=Ts.map Value.type
 |[],_=>fun h=>by cases h;rfl
 |t::Ts,a=>fun h=>by
  cases h with
  |cons b c=>rw[show _=Value.type t from b,bH.types c];rfl
def bH.bools:∀{bs:Tx Bool}{a:T7},bH (bs.map V.bl) a->a=bs.map Value.bool
 |[],_=>fun h=>by cases h;rfl
 |b::bs,a=>fun h=>by
  cases h with
  |cons c d=>rw[show _=Value.bool b from c,bH.bools d];rfl
def all_range(bs:Tx Bool):(List.range bs.length).all (fun i=>bs.getD i false)=bs.all id:=by
 rw[S0];simp only[List.all_eq_true,List.mem_range,id];constructor
 .intro h b a;obtain⟨i,hi,rfl⟩:=List.mem_iff_getElem.mp a;have:=h i hi;rw[A8,B1 hi]at this;exact this
 .intro h i hi;rw[A8,B1 hi];exact h _ (S9 hi)
def any_range(bs:Tx Bool):(List.range bs.length).any (fun i=>bs.getD i false)=bs.any id:=by
 rw[S0];simp only[List.any_eq_true,List.mem_range,id];constructor
 .rintro⟨i,hi,h⟩;rw[A8,B1 hi]at h;exact⟨_,S9 hi,h⟩
 .rintro⟨b,a,h⟩;obtain⟨i,hi,rfl⟩:=List.mem_iff_getElem.mp a;exact⟨i,hi,by rw[A8,B1 hi];exact h⟩
def xA{bs:Tx Bool}:TruthOf prog w A (fun i v=>(bs.map Value.bool).toArray[i]?=Z v) (fun i=>bs.getD i false):=by
 intro i v s Q E a d;rw[A0w,D6]at a;cases e:bs[i]? with
 |none=>rw[e]at a;cases a
 |some b=>
  rw[e]at a;cases a;have f:bs.getD i false=b:=by rw[A8,e];rfl
  have c:Q (bs.getD i false) s:=d;rw[f]at c;exact Y2 c
noncomputable def AJ:Nat:=2 ^ 8000
def ZY(i:Int):Prop:=i.natAbs<AJ
def HZ(h:ZY j):j.natAbs.log2<9000:=by
 by_cases a:j.natAbs=0
 .rw[a];decide +kernel
 .exact Nat.lt_trans ((Nat.log2_lt a).mpr h) (by decide)
def aIa(i j:Int):Prop:=ZY i/\ZY j
def DE(h:ZY j):Builtin.Int.intBits j<=2 ^ 20:=by
 unfold Builtin.Int.intBits;by_cases a:(j==0)=true
 .rw[A4 a];exact E9 _
 .rw[B2 a];have:=HZ h;omega
end
structure Callee(P:Uf)(w:World)(K:Fg)(mg:Str->Ti)(base:Heap)(k:Nat)(x:Str)(ps:Te)(sp:Sp)(q:Bool:=true):Prop where
 ex:∃f fd,mY P w K mg base CX0 k f fd ps sp q/\mg x=Z (.ref f)/\PySem.W.keepIn K (.ref f)=true/\Binds K fd ps []
structure Def(K:Fg)(mg:Str->Ti)(x:Str)(st:Stmt):Prop where
 ex:∃f fd,Fun K x x st f fd/\mg x=Z (.ref f)
section
variable{P:Uf}{w:World}{K:Fg}{mg:Str->Ti}{base:Heap}{X:Cx}
def Def.ok{st:Stmt}{ps:Te}{sp:Sp}{q:Bool}(D:Def K mg x st)(S:bC N ps (aN st))
 (b:∀(kV doc pm:Ua)(an:Tk)(cdv ct:Ua)(us:T7),us.length=ps.length->bindArgs (PySem.W.fnOf x x (gK st) (cS st) (aN st) .none kV doc pm an cdv ct) ⟨us,[]⟩=pure (ps.zip us))
 (len:∀vs H Q E,sp vs H Q E->vs.length=ps.length)
 (a:∀(f:Ud)(cdv:Ua)(A:Ug)(outer:Tx Env)(s:Uc)(H:Hp)(vs:Tf)(Q:VK)(E:XK),eJ k (A.deeper (envOfC x (aN st) s.heap.objs.size f cdv)) q->sp vs H Q E->
  ∃t,PSs (nZ CX0 P w K mg base N x (aN st) f cdv A outer s H E q).nox (cS st) t/\t { nx:=fun _ H'=>Q .non H',rt:=Q } (start N vs) H):Callee P w K mg base (k+1) x ps sp q:=by
 obtain⟨f,fd,F,m⟩:=D.ex;exact⟨f,fd,F.ok S len fun cdv A outer s H vs Q E c h=>a f cdv A outer s H vs Q E c h,m,F.kp,F.binds b⟩
def Callee.mono{k:Nat}(C:Callee P w K mg base j x ps sp)(h:j<=k):Callee P w K mg base k x ps sp:=by
 obtain⟨f,fd,F,r⟩:=C.ex;exact⟨f,fd,F.mono h,r⟩
def def_mk{st:Stmt}{oc:Ua}{od:Tk}{osl:Array (Ti)}{kV doc:Ua}(X:K.In h)(G:h.Ns mainGlobals mg)(a:PySem.W.nsIn K mainGlobals x=Z (Z (.ref f)))
 (l:K.lookup f=Z ⟨oc,od,.func (PySem.W.fnOf x x (gK st) (cS st) (aN st) .none kV doc pm an cdv ct),osl⟩) (c:PySem.W.codeIn K cdv x=true) (k:PySem.W.keepIn K (.ref f)=true):Def K mg x st:=
 ⟨f,_,aGI l c k,PySem.W.mg_of X G a⟩
def aHu{e:Ue}{es:Ta}(C:Callee X.prog X.w X.K X.mg X.base k x ps sp q)(d:eJ k X.A q)(ha:PA X (e::es) t)(g:Gl X x:=by rfl)
 (a:(x==("__debug__":Str))=false:=by decide) (h:starEach (e::es) X.env=(false,eval e X.env)::starEach es X.env:=by rfl) (c:(backTo pos (starEach es X.env)).any (·.1)=false:=by rfl):
 PE X (.Call (.Name x p) (e::es) [] pos) (XB sp [] E0 t):=by
 obtain⟨f,fd,F,m,kp,b⟩:=C.ex;exact OK F d g m kp b .nil aIj ha a h c
def eJ.units1(r:eJ k A):A.in1.units+64<cLine:=by have:=r.un;show A.units+1+64<_;omega
def SC(mg:Str->Ti)(xs:Te):Prop:=∀x∈xs,mg x=Y
def SC.of(h:SC mg xs)(x:Str)(a:x∈xs:=by decide +kernel):mg x=Y:=h x a
def aAL:SC mg []:=fun _ h=>absurd h (by simp)
def cV{x:Str}(h:mg x=Y)(a:SC mg xs):SC mg (x::xs):=fun y b=>(List.mem_cons.mp b).elim (fun e=>e▸h) (a y)
def JV(i j:Int):Prop:=aGt i j\/aIa i j
def JV.ok(h:JV i j):IntMulOk i j:=by
 rcases h with h|h
 .exact h.ok
 .exact IntMulOk.of_bits (DE h.1) (DE h.2)
def aCJ:OpR X (binaryOp .Mult) (rI JV fun i j=>.int (i*j)):=opI fun _ _ _ _ _ _ _ a q=>mul_int q a.ok
def aEn(_ j:Int):Prop:=0<j/\ZY j
def aAx:OpR X (binaryOp .FloorDiv) (rI aEn fun i j=>.int (i / j)):=opI fun i j _ _ _ _ _ a q=>by
 refine floordiv_int (Int.ne_of_gt a.1) ?_ (.inl (PyProof.noPylong_of_log2 (HZ a.2)));rw[Int.fdiv_eq_ediv_of_nonneg _ (Int.le_of_lt a.1)];exact q
end
def aDD(sc0:Scope)(N N':Te)(cap:T5)(scope:Scope):Bool:=
 scope.names.all (fun y=>y.2 != .cell)&&(scope.kind==.function)&&scope.names.all (fun y=>y.2 != .local || scope.names.lookup y.1==Z .local) &&
 scope.names.all (fun y=>y.2 != .free || (sc0.names.lookup y.1==Z .cell || sc0.names.lookup y.1==Z .free))&&(cap.length==N'.length) &&
 (List.range cap.length).all fun i=>match cap[i]? with
  |some (some j)=>(match N'[i]?,N[j]? with
   |some x,some y=>x==y&&scope.names.lookup x==Z .free
   |_,_=>false)
  |_=>true
def aBI{X:Cx}{sc0:Scope}{N:Te}(n:X.env.scope=sc0)(o:X.N=N)(h:aDD sc0 N N' cap scope=true):nJ X N' cap scope:=by
 unfold aDD at h;simp only[Bool.and_eq_true,List.all_eq_true,beq_iff_eq,bne_iff_ne,ne_eq,Bool.or_eq_true,List.mem_range]at h;obtain⟨⟨⟨⟨⟨a,b⟩,c⟩,d⟩,e⟩,f⟩:=h;refine⟨a,b,fun y l m=>?_,fun y l m=>?_,e,fun i j k=>?_⟩
 .rcases c y l with z|z
  .exact absurd m z
  .exact z
 .show X.env.scope.names.lookup y.1=_\/X.env.scope.names.lookup y.1=_;rw[n];rcases d y l with z|z
  .exact absurd m z
  .exact z
 .have hi:i<cap.length:=(List.getElem?_eq_some_iff.mp k).1;have g:=f i hi;rw[k]at g;dsimp only at g;rw[o];split at g
  .rename_i x y ex p;rw[B8,Z4,Z4]at g;exact⟨x,ex,by rw[p,g.1],g.2⟩
  .cases g
noncomputable def tyName:Ub->String
 |.none=>"NoneType"
 |.bool _=>"bool"
 |.int _=>"int"
 |.str _=>"str"
 |.list _=>"list"
 |.tuple _=>"tuple"
 |.dict _=>"dict"
noncomputable def asked:Tx String:=["int","bool","str","list","tuple","dict"]
noncomputable def isT(T S:String):Bool:=T==S || (T=="int"&&S=="bool")
def tO(T:String)(d:Ub):Bool:=isT T (tyName d)
def aHH(S T:String):Tz Bool:=if (Value.type S==Value.type T)=true then Z true else if PySem.W.kitMeta T=true then(PySem.fastBuiltinMro S).map (·.contains (Value.type T))else Y
def YX:(["NoneType","bool","int","str","list","tuple","dict"].all fun S=>asked.all fun T=>aHH S T==Z (isT T S))=true:=by decide +kernel
def aBm{T:String}(h:T∈asked):PySem.W.kitOne K (.type (tyName d)) (.type T)=Z (tO T d):=by
 have e:PySem.W.kitOne K (.type (tyName d)) (.type T)=aHH (tyName d) T:=rfl;rw[e];have a:=YX;rw[Z3]at a;have b:=a (tyName d) (by cases d<;>simp[tyName]);rw[Z3]at b;exact eq_of_beq (b T h)
def PH{K:Fg}:∀{Ts:Tx String},(∀T∈Ts,T∈asked)->PySem.W.kitAny K (.type (tyName d)) (Ts.map Value.type)=Z (Ts.any fun T=>tO T d)
 |[]=>fun _=>rfl
 |T::Ts=>fun h=>by
  rw[B6];unfold PySem.W.kitAny;rw[aBm (h T A9),List.any_cons];cases tO T d with
  |true=>rfl
  |false=>rw[Bool.false_or];exact PH fun U a=>h U (B0 _ a)
section
variable{X:Cx}
def OM{H:Hp}(I:Inv X pins j H s):∀{d:Ub}{v:V}{u:Ua},Rep X.K H d v->RelV v u->∃Hc:Heap->Prop,PySem.W.KitX X.K u (.type (tyName d)) Hc/\Hc s.heap/\u≠.builtin "__main__.__loader__#opaque"
 |.none,v,u=>fun h r=>by
  rw[show v=.non from h]at r;cases (show u=Value.none from r);exact⟨_,PySem.W.kitx_none,True.intro,fun z=>nomatch z⟩
 |.bool b,v,u=>fun h r=>by
  rw[show v=.bl b from h]at r;cases (show u=Value.bool b from r);exact⟨_,PySem.W.kitx_bool,True.intro,fun z=>nomatch z⟩
 |.int i,v,u=>fun h r=>by
  rw[show v=.int i from h]at r;obtain⟨t,q⟩:=(show ∃t,u=Value.int i t from r);cases q;exact⟨_,PySem.W.kitx_int,True.intro,fun z=>nomatch z⟩
 |.str x,v,u=>fun h r=>by
  rw[show v=.str x from h]at r;obtain⟨t,q⟩:=(show ∃t,u=Value.str x t from r);cases q;exact⟨_,PySem.W.kitx_str,True.intro,fun z=>nomatch z⟩
 |.list xs,v,u=>fun h r=>by
  obtain⟨a,vs,rfl,c,_⟩:=h;cases (show u=Value.ref a from r);obtain⟨e,k,⟨o,n,f,g,_,hd⟩,_⟩:=I.list c;exact⟨_,PySem.W.kitx_list,⟨o,f,g⟩,fun z=>nomatch z⟩
 |.tuple xs,v,u=>fun h r=>by
  obtain⟨a,vs,rfl,c,_⟩:=h;cases (show u=Value.ref a from r);obtain⟨e,k,⟨o,f,g,n,hd⟩,_⟩:=I.tuple c;exact⟨_,PySem.W.kitx_tuple,⟨o,f,g⟩,fun z=>nomatch z⟩
 |.dict kvs,v,u=>fun h r=>by
  obtain⟨a,ks,rfl,c,_⟩:=h;cases (show u=Value.ref a from r);obtain⟨_,_,vs,_,o,es,ep,l,m,_⟩:=(show gM X.prog X.w H s.heap a (.dK ks)from I.hok a _ c);exact⟨_,PySem.W.kitx_dict,⟨o,l,m.1⟩,fun z=>nomatch z⟩
def aFH(K:Fg):Tf->Hp->VK->Prop:=fun xs H Q=>∃x T d,xs=[x,.ty T]/\T∈asked/\Rep K H d x/\Q (.bl (tO T d)) H
def RQ:dM X (.builtin "isinstance") (aFH X.K):=by
 intro pins s j H xs us Q I r h;obtain⟨x,T,d,rfl,hT,hd,q⟩:=h;obtain⟨u,e,rfl,f,b⟩:=vals2 r;cases (show e=Value.type T from b);obtain⟨Hc,a,g,c⟩:=OM I hd f;exact PySem.W.kia_one a I.kIn g (aBm hT) c fun i=>⟨.bl _,H,I.tok i,rfl,q⟩
def YZ(K:Fg):Tf->Hp->VK->Prop:=fun xs H Q=>∃(x:V)(p:Ud)(Ts:Tx String)(d:Ub),xs=[x,.ref p]/\H p=Z (.tup (Ts.map V.ty))/\(∀T∈Ts,T∈asked)/\Rep K H d x/\Q (.bl (Ts.any fun T=>tO T d)) H
def NM:dM X (.builtin "isinstance") (YZ X.K):=by
 intro pins s A H xs us Q I r h;obtain⟨x,p,Ts,d,rfl,j,hT,hd,q⟩:=h;obtain⟨u,k,rfl,l,f⟩:=vals2 r;cases (show k=Value.ref p from f);obtain⟨_,g,m,o,t,b,n,c⟩:=(show gM X.prog X.w H s.heap p (.tup (Ts.map V.ty))from I.hok p _ j);have e:g=Ts.map Value.type:=bH.types m;subst e;obtain⟨oc,od,v,osl⟩:=o;dsimp only at b c;subst b c;obtain⟨Hc,a,y,i⟩:=OM I hd l;exact PySem.W.kia_tup a I.kIn y t (PH hT) i fun z=>⟨.bl _,H,I.tok z,rfl,q⟩
end
def kH.upd(h:H p=Y):kH H (upd H p o):=fun b u e=>by rw[aU (aW e h)];exact e
def aJ:Ub->Tz (T6)
 |.list xs=>Z xs
 |.tuple xs=>Z xs
 |_=>Y
def jM{K:Fg}{H:Hp}:∀{d:Ub}{v:V}{ds:T6},Rep K H d v->aJ d=Z ds->∃a vs,v=.ref a/\(SqL K H a vs\/SqT K H a vs)/\aL K H ds vs
 |.list xs,v,ds=>fun h e=>by
  obtain⟨a,vs,b,c,f⟩:=h;cases e;exact⟨a,vs,b,.inl c,f⟩
 |.tuple xs,v,ds=>fun h e=>by
  obtain⟨a,vs,b,c,f⟩:=h;cases e;exact⟨a,vs,b,.inr c,f⟩
 |.none,_,_=>fun _ e=>by cases e
 |.bool _,_,_=>fun _ e=>by cases e
 |.int _,_,_=>fun _ e=>by cases e
 |.str _,_,_=>fun _ e=>by cases e
 |.dict _,_,_=>fun _ e=>by cases e
section
variable{X:Cx}{tg:Ue}
def aBv(K:Fg)(tl:TE):TI:=fun c H R=>tl c H fun x b=>∃a,x=.ref a/\((∃xs,SqL K b a xs/\R (Itl K a) b)\/(∃xs,SqT K b a xs/\R (Itt K a) b))
def aGC{l:Ue}{tl:TE}(j:PE X l tl):PI X tg l (aBv X.K tl):=by
 intro pins s k H R I h;refine thn (j pins s k H _ I h) fun v s1 f=>?_;obtain⟨x,g,c,m,a,e,n⟩:=f;subst e;cases m
 have fp:∀b∈[s1.heap.objs.size],pP X pins g b:=fun b r=>by
  have e:b=s1.heap.objs.size:=List.mem_singleton.mp r;subst e;exact c.fpOk (B4 _) (c.hok.fresh (B4 _))
 rcases n with⟨xs,i,q⟩|⟨xs,i,q⟩
 .obtain⟨d,t,p,f⟩:=c.list i;refine wpAny_pyIter_list p.isList ?_;exact⟨s1.heap.objs.size,[s1.heap.objs.size],_,_,g,rfl,c.kept (t':=s1.toks) fun b o e=>A3 _ e,TY a _,⟨_,C6 _ rfl,rfl,rfl⟩,fp,q⟩
 .obtain⟨d,t,p,f⟩:=c.tuple i;refine A0d (show s1.heap.IsTuple a d.toArray from p) ?_;exact⟨s1.heap.objs.size,[s1.heap.objs.size],_,_,g,rfl,c.kept (t':=s1.toks) fun b o e=>A3 _ e,NJ a _,⟨_,C6 _ rfl,rfl,rfl⟩,fp,q⟩
end
inductive CD where
 |d (x:Ub)
 |c (n:Nat)
 |t (xs:Tx (Ub ⊕ Nat))
 |f (kvs:Tx (Tx Key×Ub))
 |g (nm:Str)
abbrev Tw:=Tx (Str×CD)
abbrev Th:=Tz CD
abbrev T8:=Tx CD
inductive Cell where
 |lst (xs:T8)
 |dk (kvs:Tx (Key×CD))
 |dt (kvs:Tx (Tx Key×CD))
 |obj (nm:Str) (fs:Tw)
 |exc (fr:Bool) (nm:Str) (fs:Tw)
 |dead
structure Wd where
 F:Hp
 α:Nat->Ud
 n:Nat
structure Wd.Ext(W W':Wd):Prop where
 ff:kH W.F W'.F
 ln:W.n<=W'.n
 al:∀i,i<W.n->W'.α i=W.α i
def Wd.Ext.refl(W:Wd):W.Ext W:=⟨kH.refl _,B4 _,fun _ _=>rfl⟩
def Wd.Ext.trans(a:W.Ext c)(b:c.Ext d):W.Ext d:=⟨a.ff.trans b.ff,O7 a.ln b.ln,fun i h=>(b.al i (C4 h a.ln)).trans (a.al i h)⟩
def RW(K:Fg)(W:Wd):Ub ⊕ Nat->V->Prop
 |.inl x,v=>Rep K W.F x v
 |.inr i,v=>i<W.n/\v=.ref (W.α i)
noncomputable def cdA:Ub ⊕ Nat->CD
 |.inl x=>.d x
 |.inr i=>.c i
def eU(K:Fg)(nm:Str):Ud:=match PySem.W.nsIn K mainGlobals nm with
 |some (some (.ref C))=>C
 |_=>0
def dI(K:Fg)(W:Wd):CD->V->Prop
 |.d x,v=>Rep K W.F x v
 |.c i,v=>i<W.n/\v=.ref (W.α i)
 |.t xs,v=>∃a vs,v=.ref a/\W.F a=Z (.tup vs)/\Paired (RW K W) xs vs
 |.f kvs,v=>∃a o us,v=.ref a/\W.F a=Z (.frz o (.dT us))/\Paired (fun p q=>p.1=q.1/\Rep K W.F p.2 q.2) kvs us
 |.g nm,v=>v=.ref (eU K nm)
abbrev bK(K:Fg)(W:Wd):T8->Tf->Prop:=Paired (dI K W)
def aCs(K:Fg)(W:Wd):Th->Tz V->Prop
 |none,none=>True
 |some x,some v=>dI K W x v
 |_,_=>False
abbrev dA(K:Fg)(W:Wd):Tx (Th)->St->Prop:=Paired (aCs K W)
def II(a:Ud)(c:Ua)(dx:Tk)(fr:Bool)(h:Heap):Prop:=∃o vs,h.get? a=Z o/\o.cls=c/\o.dict=dx/\o.data=.fields vs/\(fr=true->1<vs.size/\vs[1]?=Z .none)
def HU(K:Fg)(W:Wd)(dx:Tk)(fs:Tw):Prop:=match dx with
 |none=>fs=[]
 |some d=>fs≠[]/\∃us,W.F d=Z (.xd us)/\Paired (fun p q=>p.1=q.1/\dI K W p.2 q.2) fs us
def FZ(K:Fg)(W:Wd)(a:Ud):Cell->HO->Prop
 |.lst xs,.lst vs=>bK K W xs vs
 |.dk kvs,.dK us=>Paired (fun p q=>p.1=q.1/\dI K W p.2 q.2) kvs us
 |.dt kvs,.dT us=>Paired (fun p q=>p.1=q.1/\dI K W p.2 q.2) kvs us
 |.obj nm fs,.ins C _ us=>C=eU K nm/\Paired (fun p q=>p.1=q.1/\dI K W p.2 q.2) fs us
 |.exc fr nm fs,.ext b=>∃dx,b=II a (.ref (eU K nm)) dx fr/\HU K W dx fs
 |_,_=>False
noncomputable def uJ:Te:=["straight_within"]
def tabOf(K:Fg):Ua->Tk
 |.ref c=>match K.lookup c with
  |some o=>(match o.data with
   |.fields vs=>(match (vs[11]?:Ti)with
    |some (Value.ref P)=>Z P
    |_=>Y)
   |_=>Y)
  |none=>Y
 |_=>Y
def lW(K:Fg):Tx (Ud×Str):=K.filterMap fun p=>match p.2.data with
 |.func fd=>if uJ.contains fd.name=true then(tabOf K fd.code).map fun P=>(P,fd.qualname++".<locals>.<lambda>")else Y
 |_=>Y
def TabAt(H:Hp)(x:Ud×Str):Prop:=∃ps,H x.1=Z (.tbl ps)/\TriplesOk ps.toList/\∀pos a,codeAmong pos ps.toList=Z a->∃c' oc u vs t,a=.ref c'/\H c'=Z (.frz oc u)/\oc.data=.fields vs/\vs[1]?=Z (.str x.2 t)
def TabAt.upd(h:TabAt H x)(b:∀ps,H p≠Z (.tbl ps))(d:∀ob u,H p≠Z (.frz ob u)):TabAt (upd H p o) x:=by
 obtain⟨ps,e,t,k⟩:=h;refine⟨ps,by rw[aU (show x.1≠p from fun z=>b ps (z▸e))];exact e,t,fun pos f c=>?_⟩;obtain⟨c',oc,u,vs,g,i,a,j⟩:=k pos f c;exact⟨c',oc,u,vs,g,i,by rw[aU (show c'≠p from fun z=>d oc u (z▸a))];exact a,j⟩
def TabsOk(K:Fg)(F H:Hp):Prop:=∀x∈lW K,F x.1=Y/\TabAt H x
def TabsOk.upd(h:TabsOk K F H)(b:∀ps,H p≠Z (.tbl ps))(c:∀ob u,H p≠Z (.frz ob u)):TabsOk K F (upd H p o):=fun x a=>⟨(h x a).1,(h x a).2.upd b c⟩
def TabsOk.fresh(h:TabsOk K F H)(a:H p=Y):TabsOk K F (L2.upd H p o):=h.upd (fun ps e=>by rw[a]at e;cases e) fun ob u e=>by rw[a]at e;cases e
def TabsOk.updF{p:Ud}{o:HO}(h:TabsOk K F H)(b:∀ps,H p≠Z (.tbl ps)):TabsOk K (L2.upd F p o) H:=fun x a=>⟨by
 obtain⟨ps,e,_⟩:=(h x a).2;rw[aU (show x.1≠p from fun z=>b ps (z▸e))];exact(h x a).1,(h x a).2⟩
def FZ.nt(r:FZ K W a c o):(∀ps,o≠.tbl ps)/\∀ob u,o≠.frz ob u:=by
 cases c<;>cases o<;>first|exact False.elim r|exact⟨fun _ e=>(by cases e),fun _ _ e=>(by cases e)⟩
def TabsOk.cell{o:HO}(h:TabsOk K F H)(e:H a=Z o)(r:FZ K W a c o):TabsOk K F (L2.upd H a o'):=
 h.upd (fun ps z=>r.nt.1 ps (D7 (e.symm.trans z))) fun ob u z=>r.nt.2 ob u (D7 (e.symm.trans z))
structure Good(K:Fg)(W:Wd)(M:Tx Cell)(H:Hp):Prop where
 fh:kH W.F H
 n:W.n=M.length
 cs:∀i c,M[i]?=Z c->c≠.dead->W.F (W.α i)=Y/\∃o,H (W.α i)=Z o/\FZ K W (W.α i) c o
 inj:∀i j c c',M[i]?=Z c->M[j]?=Z c'->c≠.dead->c'≠.dead->W.α i=W.α j->i=j
 tb:TabsOk K W.F H
section
variable{K:Fg}{W W':Wd}{M M':Tx Cell}{H H':Hp}
def RW.up(h:RW K W x v)(e:W.Ext W'):RW K W' x v:=by
 cases x with
 |inl x=>exact Rep.same e.ff _ _ h
 |inr i=>exact⟨C4 h.1 e.ln,by rw[e.al i h.1];exact h.2⟩
def dI.up(h:dI K W x v)(e:W.Ext W'):dI K W' x v:=by
 cases x with
 |d x=>exact Rep.same e.ff _ _ h
 |c i=>exact⟨C4 h.1 e.ln,by rw[e.al i h.1];exact h.2⟩
 |t xs=>
  obtain⟨a,vs,b,j,k⟩:=h;exact⟨a,vs,b,e.ff _ _ j,Paired.mapP k fun _ _ r=>RW.up r e⟩
 |f kvs=>
  obtain⟨a,o,us,b,j,k⟩:=h;exact⟨a,o,us,b,e.ff _ _ j,Paired.mapP k fun _ _ r=>⟨r.1,Rep.same e.ff _ _ r.2⟩⟩
 |g nm=>exact h
def bK.up(h:bK K W xs vs)(e:W.Ext W'):bK K W' xs vs:=Paired.mapP h fun _ _ r=>dI.up r e
def dA.up{γ:Tx (Th)}(h:dA K W γ c)(e:W.Ext W'):dA K W' γ c:=Paired.mapP h fun a b r=>by
 cases a<;>cases b
 .exact True.intro
 .exact False.elim r
 .exact False.elim r
 .exact dI.up r e
def HU.up(h:HU K W dx fs)(e:W.Ext W'):HU K W' dx fs:=by
 cases dx with
 |none=>exact h
 |some d=>
  obtain⟨a,us,b,c⟩:=h;exact⟨a,us,e.ff _ _ b,Paired.mapP c fun _ _ r=>⟨r.1,dI.up r.2 e⟩⟩
def FZ.up(h:FZ K W a c o)(e:W.Ext W'):FZ K W' a c o:=by
 cases c<;>cases o<;>first|exact(let⟨dx,b,d⟩:=h;⟨dx,b,d.up e⟩)|exact False.elim h|exact bK.up h e|exact Paired.mapP h fun _ _ r=>⟨r.1,dI.up r.2 e⟩|exact⟨h.1,Paired.mapP h.2 fun _ _ r=>⟨r.1,dI.up r.2 e⟩⟩
def Good.lay(g:Good K W M H){o:HO}(d:H p=Y):W.Ext { W with F:=upd W.F p o }/\Good K { W with F:=upd W.F p o } M (upd H p o):=by
 have fp:W.F p=Y:=g.fh.free d;have e:W.Ext { W with F:=upd W.F p o }:=⟨kH.upd fp,B4 _,fun _ _=>rfl⟩;refine⟨e,?_,g.n,fun i c hi h=>?_,g.inj,(g.tb.updF fun ps e=>by rw[d]at e;cases e).fresh d⟩
 .intro b u a;have a:upd W.F p o b=Z u:=a;by_cases q:b=p
  .subst q;rw[bA]at a;rw[bA];exact a
  .rw[aU q]at a;rw[aU q];exact g.fh b u a
 .obtain⟨j,o',f,k⟩:=g.cs i c hi h;have ne:W.α i≠p:=aW f d;exact⟨by show upd W.F p o (W.α i)=Y;rw[aU ne];exact j,o',by rw[aU ne];exact f,k.up e⟩
noncomputable def Wd.more(W:Wd)(p:Ud):Wd:={ W with α:=fun i=>if i=W.n then p else W.α i,n:=W.n+1 }
def Wd.ext_more(W:Wd)(p:Ud):W.Ext (W.more p):=⟨kH.refl _,A1d _,fun i h=>B2 (C8 h)⟩
def Good.new(g:Good K W M H)(f:H p=Y)(r:FZ K W p c o):Good K (W.more p) (M++[c]) (upd H p o):=by
 have e:=W.ext_more p
 have at_:∀i c',(M++[c])[i]?=Z c'->(i<M.length/\M[i]?=Z c')\/(i=M.length/\c'=c):=fun i c' h=>by
  by_cases q:i<M.length
  .rw[E6 q]at h;exact .inl ⟨q,h⟩
  .rw[F5 (Nat.le_of_not_lt q)]at h
   have h':i-M.length=0:=by
    cases k:i-M.length with
    |zero=>rfl
    |succ m=>rw[k]at h;simp at h
   rw[h']at h;refine .inr ⟨by omega,?_⟩;simpa using h.symm
 have al:∀i,i<M.length->(W.more p).α i=W.α i:=fun i h=>e.al i (by rw[g.n];exact h);have an:(W.more p).α M.length=p:=by show(if M.length=W.n then p else _)=p;rw[A4 g.n.symm]
 have a:∀i c',M[i]?=Z c'->c'≠.dead->W.α i≠p:=fun i c' h l=>by
  obtain⟨_,o',t,_⟩:=g.cs i c' h l;exact aW t f
 refine⟨?_,?_,fun i c' hi l=>?_,fun i j v s hi x y z d=>?_,g.tb.fresh f⟩
 .intro b u A;have:=g.fh b u A;rw[aU (aW this f)];exact this
 .show W.n+1=_;rw[g.n,A6];rfl
 .rcases at_ i c' hi with⟨q,h⟩|⟨rfl,rfl⟩
  .obtain⟨B,o',t,C⟩:=g.cs i c' h l;rw[al i q];exact⟨B,o',by rw[aU (a i c' h l)];exact t,C.up e⟩
  .rw[an];exact⟨g.fh.free f,o,bA,r.up e⟩
 .rcases at_ i v hi with⟨q,h⟩|⟨rfl,rfl⟩
  .rcases at_ j s x with⟨w,h'⟩|⟨rfl,rfl⟩
   .rw[al i q,al j w]at d;exact g.inj i j v s h h' y z d
   .rw[al i q,an]at d;exact absurd d (a i v h y)
  .rcases at_ j s x with⟨w,h'⟩|⟨rfl,rfl⟩
   .rw[an,al j w]at d;exact absurd d.symm (a j s h' z)
   .rfl
def Good.set(g:Good K W M H){i:Nat}{c:Cell}(hi:M[i]?=Z c)(a:c≠.dead)(r:FZ K W (W.α i) c' o'):Good K W (M.set i c') (upd H (W.α i) o'):=by
 obtain⟨p,o,w,x⟩:=g.cs i c hi a;have lt:i<M.length:=(List.getElem?_eq_some_iff.mp hi).1
 have at_:∀j d,(M.set i c')[j]?=Z d->(j=i/\d=c')\/(j≠i/\M[j]?=Z d):=fun j d h=>by
  by_cases q:i=j
  .subst q;rw[E2 lt]at h;exact .inl ⟨rfl,(D7 h).symm⟩
  .rw[D5 q]at h;exact .inr ⟨fun z=>q z.symm,h⟩
 refine⟨?_,by rw[g.n,U2],fun j d e hd=>?_,fun j k f l e y s t m=>?_,g.tb.cell w x⟩
 .intro b u v;rw[aU (aW v p)];exact g.fh b u v
 .rcases at_ j d e with⟨rfl,rfl⟩|⟨q,h⟩
  .exact⟨p,o',bA,r⟩
  .obtain⟨A,u,B,C⟩:=g.cs j d h hd;have ne:W.α j≠W.α i:=fun z=>q (g.inj j i d c h hi hd a z);exact⟨A,u,by rw[aU ne];exact B,C⟩
 .rcases at_ j f e with⟨rfl,rfl⟩|⟨q,h⟩<;>rcases at_ k l y with⟨rfl,rfl⟩|⟨D,h'⟩
  .rfl
  .exact g.inj _ k c l hi h' a t m
  .exact g.inj j _ f c h hi s a m
  .exact g.inj j k f l h h' s t m
end
noncomputable abbrev Ga:=Tx (Th)
noncomputable abbrev Sto:=Tx Cell
abbrev EF:=Ga->Sto->Option (CD×Sto)
abbrev TF:=Ga->Sto->Tz (Bool×Sto)
abbrev AF:=Ga->Sto->Option (List CD×Sto)
inductive Out where
 |nx (γ:Ga)|bk (γ:Ga)|ct (γ:Ga)|rt (x:CD)
abbrev SF:=Ga->Sto->Tz (Out×Sto)
abbrev GF:=CD->Ga->Sto->Tz (Ga×Sto)
abbrev GsF:=T8->Ga->Sto->Tz (Ga×Sto)
abbrev F1:=CD->Sto->Tz (CD×Sto)
abbrev F2:=CD->CD->Sto->Tz (CD×Sto)
abbrev FN:=T8->Sto->Tz (CD×Sto)
section
variable(K:Fg)
def SE(t:TE)(f:EF):Prop:=∀γ M x M',f γ M=Z (x,M')->∀(W:Wd)(H:Hp)(a:St)(Q:VK),Good K W M H->dA K W γ a->(∀v W' H',W.Ext W'->Good K W' M' H'->dI K W' x v->Q v H')->t a H Q
def STt(t:TT)(f:TF):Prop:=∀γ M b M',f γ M=Z (b,M')->∀(W:Wd)(H:Hp)(a:St)(Q:Bool->Hp->Prop),Good K W M H->dA K W γ a->(∀W' H',W.Ext W'->Good K W' M' H'->Q b H')->t a H Q
def SA(t:TA)(f:AF):Prop:=∀γ M xs M',f γ M=Z (xs,M')->∀(W:Wd)(H:Hp)(a:St)(Q:Tf->Hp->Prop),Good K W M H->dA K W γ a->(∀vs W' H',W.Ext W'->Good K W' M' H'->bK K W' xs vs->Q vs H')->t a H Q
def aAD(D:Ends)(W:Wd)(H:Hp):Out->Prop
 |.nx γ=>∀a,dA K W γ a->D.nx a H
 |.bk γ=>∀a,dA K W γ a->D.bk a H
 |.ct γ=>∀a,dA K W γ a->D.ct a H
 |.rt x=>∀v,dI K W x v->D.rt v H
def SS(t:TS)(f:SF):Prop:=∀γ M o M',f γ M=Z (o,M')->∀(W:Wd)(H:Hp)(a:St)(D:Ends),Good K W M H->dA K W γ a->(∀W' H',W.Ext W'->Good K W' M' H'->aAD K D W' H' o)->t D a H
def SG(t:TG)(f:GF):Prop:=∀x γ M a M',f x γ M=Z (a,M')->∀(W:Wd)(H:Hp)(c:St)(v:V)(Q:St->Hp->Prop),Good K W M H->dA K W γ c->dI K W x v->(∀b W' H',W.Ext W'->Good K W' M' H'->dA K W' a b->Q b H')->t v c H Q
def SGs(t:TGs)(f:GsF):Prop:=∀xs γ M a M',f xs γ M=Z (a,M')->∀(W:Wd)(H:Hp)(c:St)(vs:Tf)(Q:St->Hp->Prop),Good K W M H->dA K W γ c->bK K W xs vs->(∀b W' H',W.Ext W'->Good K W' M' H'->dA K W' a b->Q b H')->t vs c H Q
def P2(r:R2)(f:F2):Prop:=∀x y M z M',f x y M=Z (z,M')->∀(W:Wd)(H:Hp)(v u:V)(Q:VK),Good K W M H->dI K W x v->dI K W y u->(∀w W' H',W.Ext W'->Good K W' M' H'->dI K W' z w->Q w H')->r v u H Q
def P1(r:V->Hp->VK->Prop)(f:F1):Prop:=∀x M z M',f x M=Z (z,M')->∀(W:Wd)(H:Hp)(v:V)(Q:VK),Good K W M H->dI K W x v->(∀w W' H',W.Ext W'->Good K W' M' H'->dI K W' z w->Q w H')->r v H Q
def PN(r:Tf->Hp->VK->Prop)(f:FN):Prop:=∀xs M z M',f xs M=Z (z,M')->∀(W:Wd)(H:Hp)(vs:Tf)(Q:VK),Good K W M H->bK K W xs vs->(∀w W' H',W.Ext W'->Good K W' M' H'->dI K W' z w->Q w H')->r vs H Q
def spM(f:FN):Sp:=fun vs H Q _=>∃xs M W y M',Good K W M H/\bK K W xs vs/\f xs M=Z (y,M')/\∀v W' H',W.Ext W'->Good K W' M' H'->dI K W' y v->Q v H'
end
def aB(i:Nat):EF:=fun γ M=>match γ[i]? with
 |some (some x)=>Z (x,M)
 |_=>Y
def fC(x:Ub):EF:=fun _ M=>Z (.d x,M)
noncomputable def fOp(h:F2)(f g:EF):EF:=fun γ M=>(f γ M).bind fun r=>(g γ r.2).bind fun q=>h r.1 q.1 q.2
noncomputable def fUn(h:F1)(f:EF):EF:=fun γ M=>(f γ M).bind fun r=>h r.1 r.2
def asB:CD->Tz Bool
 |.d (.bool b)=>Z b
 |_=>Y
def eS(f g:EF):EF:=fun γ M=>(f γ M).bind fun r=>(asB r.1).bind fun b=>if b=true then g γ r.2 else Z (.d (.bool false),r.2)
def fOr(f g:EF):EF:=fun γ M=>(f γ M).bind fun r=>(asB r.1).bind fun b=>if b=true then Z (.d (.bool true),r.2)else g γ r.2
def GA(f:EF):EF:=fun γ M=>(f γ M).bind fun r=>(asB r.1).bind fun b=>Z (.d (.bool (!b)),r.2)
noncomputable def fIf(t:TF)(f g:EF):EF:=fun γ M=>(t γ M).bind fun r=>if r.1=true then f γ r.2 else g γ r.2
def jR(f g:TF):TF:=fun γ M=>(f γ M).bind fun r=>if r.1=true then g γ r.2 else Z (false,r.2)
def gOr(f g:TF):TF:=fun γ M=>(f γ M).bind fun r=>if r.1=true then Z (true,r.2)else g γ r.2
def cB(f:TF):TF:=fun γ M=>(f γ M).bind fun r=>Z (!r.1,r.2)
def gB(f:EF):TF:=fun γ M=>(f γ M).bind fun r=>(asB r.1).bind fun b=>Z (b,r.2)
def BB(h h':F2)(f g e:EF):EF:=fun γ M=>(f γ M).bind fun r=>(g γ r.2).bind fun q=>(h r.1 q.1 q.2).bind fun z=>(asB z.1).bind fun b=>if b=true then(e γ z.2).bind fun w=>h' q.1 w.1 w.2 else Z (.d (.bool false),z.2)
def aE:AF:=fun _ M=>Z ([],M)
def aA(f:EF)(g:AF):AF:=fun γ M=>(f γ M).bind fun r=>(g γ r.2).bind fun q=>Z (r.1::q.1,q.2)
def iU:T8->Tz (T6)
 |[]=>Z []
 |.d x::r=>(iU r).map (x::·)
 |.c _::_=>Y
 |.t _::_=>Y
 |.f _::_=>Y
 |.g _::_=>Y
def cT(f:AF):EF:=fun γ M=>(f γ M).bind fun r=>(iU r.1).bind fun ds=>if ds.length<=sizeLine then Z (.d (.tuple ds),r.2)else Y
def hX(f:AF):EF:=fun γ M=>(f γ M).bind fun r=>(iU r.1).bind fun ds=>if ds.length<=sizeLine then Z (.d (.list ds),r.2)else Y
def dS(f:AF):EF:=fun γ M=>(f γ M).bind fun r=>if r.1.length<=sizeLine then Z (.c r.2.length,r.2++[.lst r.1])else Y
noncomputable def aH(h:FN)(f:AF):EF:=fun γ M=>(f γ M).bind fun r=>h r.1 r.2
def bR:SF:=fun γ M=>Z (.nx γ,M)
def aZ(f g:SF):SF:=fun γ M=>(f γ M).bind fun r=>match r.1 with
 |.nx a=>g a r.2
 |o=>Z (o,r.2)
def eZ(f:EF):SF:=fun γ M=>(f γ M).bind fun r=>Z (.nx γ,r.2)
def cD(f:EF):SF:=fun γ M=>(f γ M).bind fun r=>Z (.rt r.1,r.2)
def aIt:SF:=fun _ M=>Z (.rt (.d .none),M)
noncomputable def sIf(c:TF)(f g:SF):SF:=fun γ M=>(c γ M).bind fun r=>if r.1=true then f γ r.2 else g γ r.2
def bD(f:EF)(g:GF):SF:=fun γ M=>(f γ M).bind fun r=>(g r.1 γ r.2).bind fun q=>Z (.nx q.1,q.2)
def hName(i:Nat):GF:=fun x γ M=>Z (γ.set i (Z x),M)
def gW:GsF:=fun xs γ M=>match xs with
 |[]=>Z (γ,M)
 |_=>Y
def bI(f:GF)(g:GsF):GsF:=fun xs γ M=>match xs with
 |x::r=>(f x γ M).bind fun q=>g r q.1 q.2
 |[]=>Y
def kE(n:Nat)(g:GsF):GF:=fun x γ M=>match x with
 |.d (.tuple ds)=>if ds.length=n then g (ds.map .d) γ M else Y
 |.t xs=>if xs.length=n then g (xs.map cdA) γ M else Y
 |_=>Y
abbrev F3:=CD->CD->CD->Sto->Tz Sto
def hSub(fo a:EF)(s:F3):GF:=fun x γ M=>(fo γ M).bind fun r=>(a γ r.2).bind fun q=>(s r.1 q.1 x q.2).bind fun M'=>Z (γ,M')
def hV(g:GF)(b:SF):T8->Ga->Sto->Tz (Out×Sto)
 |[],γ,M=>Z (.nx γ,M)
 |x::xs,γ,M=>(g x γ M).bind fun r=>(b r.1 r.2).bind fun q=>match q.1 with
  |.nx a=>hV g b xs a q.2
  |.ct a=>hV g b xs a q.2
  |.bk a=>Z (.nx a,q.2)
  |.rt x=>Z (.rt x,q.2)
def gV(f:AF)(g:GF)(b:SF):SF:=fun γ M=>(f γ M).bind fun r=>hV g b r.1 γ r.2
def lcF(g:GF)(c:TF)(e:EF):T8->Ga->Sto->Tz (T8×Sto)
 |[],γ,M=>Z ([],M)
 |x::xs,γ,M=>(g x γ M).bind fun a=>(c a.1 a.2).bind fun b=>if b.1=true then(e a.1 b.2).bind fun r=>(lcF g c e xs a.1 r.2).bind fun q=>Z (r.1::q.1,q.2)else lcF g c e xs a.1 b.2
noncomputable def jS(cap:T5)(γ:Ga):Ga:=cap.map fun o=>o.bind fun j=>(γ[j]?).join
def cF:TF:=fun _ M=>Z (true,M)
def xB(cap:T5)(f:AF)(g:GF)(c:TF)(e:EF):AF:=fun γ M=>(f γ M).bind fun r=>if r.1.length<=sizeLine then lcF g c e r.1 (jS cap γ) r.2 else Y
def fLc(cap:T5)(f:AF)(g:GF)(c:TF)(e:EF):EF:=hX (xB cap f g c e)
def EJ(cap:T5)(f:AF)(g:GF)(c:TF)(e:EF):EF:=dS (xB cap f g c e)
def fnF(ps N:Nat)(b:SF):FN:=fun xs M=>if xs.length=ps then(b (xs.map Z++List.replicate (N-xs.length) Y) M).bind fun r=>match r.1 with
 |.rt x=>Z (x,r.2)
 |.nx _=>Z (.d .none,r.2)
 |_=>Y else Y
def aM{b c:Type}{o:Tz b}{k:b->Tz c}{r:c}(h:o.bind k=Z r):∃a,o=Z a/\k a=Z r:=by
 cases o with
 |none=>cases h
 |some a=>exact⟨a,rfl,h⟩
def Paired.get{a b:Type}{R:a->b->Prop}:∀{xs:Tx a}{ys:Tx b}{i:Nat}{x:a},Paired R xs ys->xs[i]?=Z x->∃y,ys[i]?=Z y/\R x y
 |_,_,_,_,.nil=>fun e=>by simp at e
 |_,_,0,_,.cons r _=>fun e=>by simp at e;subst e;exact⟨_,rfl,r⟩
 |_,_,i+1,x,.cons _ t=>fun e=>by
  obtain⟨u,c,d⟩:=Paired.get (i:=i) (x:=x) t (by simpa using e);exact⟨u,by simpa using c,d⟩
def Paired.set{a b:Type}{R:a->b->Prop}{x:a}{y:b}(r:R x y):∀{xs:Tx a}{ys:Tx b}(i:Nat),Paired R xs ys->Paired R (xs.set i x) (ys.set i y)
 |_,_,_,.nil=>.nil
 |_,_,0,.cons _ t=>.cons r t
 |_,_,i+1,.cons q t=>.cons q (Paired.set r i t)
def Paired.app{c d:Type}{R:c->d->Prop}:∀{xs a:Tx c}{ys b:Tx d},Paired R xs ys->Paired R a b->Paired R (xs++a) (ys++b)
 |_,_,_,_,.nil=>fun s=>s
 |_,_,_,_,.cons r t=>fun s=>.cons r (Paired.app t s)
def Paired.len{a b:Type}{R:a->b->Prop}{xs:Tx a}{ys:Tx b}(p:Paired R xs ys):xs.length=ys.length:=Paired.length p
section
variable{K:Fg}
def dZ{W:Wd}:∀{xs:T8}{ds:T6}{vs:Tf},iU xs=Z ds->bK K W xs vs->aL K W.F ds vs
 |[],ds,vs=>fun e h=>by
  cases e;cases h;rfl
 |.c _::_,ds,vs=>fun e h=>by cases e
 |.t _::_,ds,vs=>fun e h=>by cases e
 |.f _::_,ds,vs=>fun e h=>by cases e
 |.g _::_,ds,vs=>fun e h=>by cases e
 |.d x::r,ds,vs=>fun e h=>by
  cases h with
  |@cons _ v _ a b i=>
   unfold iU at e;cases q:iU r with
   |none=>rw[q]at e;cases e
   |some es=>
    rw[q]at e;cases e;exact⟨v,a,rfl,b,dZ q i⟩
def QD(h:Paired (RW K W) xs vs):bK K W (xs.map cdA) vs:=by
 induction h with
 |nil=>exact .nil
 |@cons x v _ _ r _ ih=>exact .cons (by cases x<;>exact r) ih
def eW{W:Wd}:∀{ds:T6}{vs:Tf},aL K W.F ds vs->bK K W (ds.map .d) vs
 |[],vs=>fun h=>by rw[show vs=[]from h];exact .nil
 |d::ds,vs=>fun h=>by
  obtain⟨v,r,rfl,a,b⟩:=h;exact .cons a (eW b)
def AN:∀{xs:T8}{ds:T6},iU xs=Z ds->ds.length=xs.length
 |[],ds=>fun e=>by cases e;rfl
 |.c _::_,ds=>fun e=>by cases e
 |.t _::_,ds=>fun e=>by cases e
 |.f _::_,ds=>fun e=>by cases e
 |.g _::_,ds=>fun e=>by cases e
 |.d x::r,ds=>fun e=>by
  unfold iU at e;cases q:iU r with
  |none=>rw[q]at e;cases e
  |some es=>
   rw[q]at e;cases e;rw[L7,L7,AN q]
def aFt:SE K (aIM i) (aB i):=by
 intro γ M x M' h W H c Q g r k;unfold aB at h;cases e:γ[i]? with
 |none=>rw[e]at h;cases h
 |some o=>
  cases o with
  |none=>rw[e]at h;cases h
  |some y=>
   rw[e]at h;cases h;obtain⟨v,b,a⟩:=Paired.get r e;cases v with
   |none=>exact False.elim a
   |some v=>exact⟨v,b,k v W H (.refl _) g a⟩
def aES:SE K (tC (.int i)) (fC (.int i)):=by
 intro γ M x M' h W H a Q g r k;cases h;exact k _ W H (.refl _) g rfl
def aIX:SE K (tC (.bl b)) (fC (.bool b)):=by
 intro γ M x M' h W H a Q g r k;cases h;exact k _ W H (.refl _) g rfl
def aEN:SE K (tC .non) (fC .none):=by
 intro γ M x M' h W H a Q g r k;cases h;exact k _ W H (.refl _) g rfl
def aFu:SE K (tC (.str x)) (fC (.str x)):=by
 intro γ M x M' h W H a Q g r k;cases h;exact k _ W H (.refl _) g rfl
variable{ta tb tc:TE}{f g e:EF}{tt uu:TT}{ft gt:TF}{tA:TA}{fa:AF}
def OA{r:R2}{h:F2}(p:P2 K r h)(a:SE K ta f)(b:SE K tb g):SE K (tOp r ta tb) (fOp h f g):=by
 intro γ M x M' c W H d Q G R k;obtain⟨⟨y,M1⟩,l,c⟩:=aM c;obtain⟨⟨z,M2⟩,m,c⟩:=aM c;refine a _ _ _ _ l W H d _ G R fun v n o i q s=>?_;refine b _ _ _ _ m n o d _ q (R.up i) fun u t A j B C=>?_;exact p _ _ _ _ _ c t A v u Q B (s.up j) C fun w D E I J L=>k w D E ((i.trans j).trans I) J L
def aIg{r:V->Hp->VK->Prop}{h:F1}(p:P1 K r h)(a:SE K ta f):SE K (tUn r ta) (fUn h f):=by
 intro γ M x M' b W H c Q G R k;obtain⟨⟨y,M1⟩,d,b⟩:=aM b;refine a _ _ _ _ d W H c _ G R fun v i j l m n=>?_;exact p _ _ _ _ b i j v Q m n fun w o q s t u=>k w o q (l.trans s) t u
def FP{b:Bool}(h:asB x=Z b):x=.d (.bool b):=by
 cases x with
 |c n=>cases h
 |t n=>cases h
 |f n=>cases h
 |g _=>cases h
 |d x=>cases x<;>first|cases h;rfl|cases h
def aEJ(a:SE K ta f)(b:SE K tb g):SE K (aDP ta tb) (eS f g):=by
 intro γ M x M' d W H i Q G R k;obtain⟨⟨y,M1⟩,n,d⟩:=aM d;obtain⟨c,o,d⟩:=aM d;refine a _ _ _ _ n W H i _ G R fun v j l h m p=>?_;have q:y=_:=FP o;subst q;refine⟨c,p,?_⟩;cases c with
 |true=>rw[A4 rfl];rw[A4 rfl]at d;exact b _ _ _ _ d j l i Q m (R.up h) fun w r s t u z=>k w r s (h.trans t) u z
 |false=>
  rw[B2 A7];rw[B2 A7]at d;cases d;exact k _ j l h m rfl
def aFZ(a:SE K ta f):SE K (aEd ta) (GA f):=by
 intro γ M x M' b W H d Q G R k;obtain⟨⟨y,M1⟩,h,b⟩:=aM b;obtain⟨c,i,b⟩:=aM b;refine a _ _ _ _ h W H d _ G R fun v j l m n o=>?_;have p:y=_:=FP i;subst p;cases b;exact⟨c,o,k _ j l m n rfl⟩
def aAj{r l:R2}{h h':F2}(p:P2 K r h)(J:P2 K l h')(a:SE K ta f)(b:SE K tb g)(c:SE K tc e):SE K (WS r l ta tb tc) (BB h h' f g e):=by
 intro γ M x M' d W H j Q G R k;obtain⟨⟨y,M1⟩,L,d⟩:=aM d;obtain⟨⟨z,M2⟩,N,d⟩:=aM d;obtain⟨⟨w,M3⟩,O,d⟩:=aM d;obtain⟨q,h4,d⟩:=aM d;refine a _ _ _ _ L W H j _ G R fun v P S n T U=>?_;refine b _ _ _ _ N P S j _ T (R.up n) fun u V X s G2 A=>?_;refine p _ _ _ _ _ O V X v u _ G2 (U.up s) A fun t B C D E r3=>?_;have hy:w=_:=FP h4;subst hy;refine⟨q,r3,?_⟩;have i:=(n.trans s).trans D;cases q with
 |true=>
  rw[A4 rfl];rw[A4 rfl]at d;obtain⟨⟨m,M4⟩,h5,d⟩:=aM d;refine c _ _ _ _ h5 B C j _ E (R.up i) fun o W4 H4 I G4 r4=>?_;exact J _ _ _ _ _ d W4 H4 u o Q G4 (A.up (D.trans I)) r4 fun w W5 H5 e5 G5 r5=>k w W5 H5 ((i.trans I).trans e5) G5 r5
 |false=>
  rw[B2 A7];rw[B2 A7]at d;cases d;exact k _ B C i E rfl
def aHk(a:STt K tt ft)(b:STt K uu gt):STt K (aHA tt uu) (jR ft gt):=by
 intro γ M x M' d W H i Q G R k;obtain⟨⟨c,M1⟩,n,d⟩:=aM d;refine a _ _ _ _ n W H i _ G R fun j l h m=>?_;cases c with
 |true=>rw[A4 rfl];rw[A4 rfl]at d;exact b _ _ _ _ d j l i Q m (R.up h) fun o p q r=>k o p (h.trans q) r
 |false=>rw[B2 A7];rw[B2 A7]at d;cases d;exact k j l h m
def aHO(a:STt K tt ft)(b:STt K uu gt):STt K (tOr tt uu) (gOr ft gt):=by
 intro γ M x M' d W H i Q G R k;obtain⟨⟨c,M1⟩,n,d⟩:=aM d;refine a _ _ _ _ n W H i _ G R fun j l h m=>?_;cases c with
 |true=>rw[A4 rfl];rw[A4 rfl]at d;cases d;exact k j l h m
 |false=>rw[B2 A7];rw[B2 A7]at d;exact b _ _ _ _ d j l i Q m (R.up h) fun o p q r=>k o p (h.trans q) r
def aGu(a:STt K tt ft):STt K (aIP tt) (cB ft):=by
 intro γ M x M' b W H d Q G R k;obtain⟨⟨c,M1⟩,h,b⟩:=aM b;cases b;exact a _ _ _ _ h W H d _ G R fun i j l m=>k i j l m
def aHE(a:SE K ta f):STt K (tB ta) (gB f):=by
 intro γ M x M' b W H d Q G R k;obtain⟨⟨y,M1⟩,h,b⟩:=aM b;obtain⟨c,i,b⟩:=aM b;refine a _ _ _ _ h W H d _ G R fun v j l m n o=>?_;have p:y=_:=FP i;subst p;cases b;exact⟨_,o,k j l m n⟩
def aBU(a:SE K ta f):STt K (aEa ta) (gB f):=aHE a
def aED:SA K SZ aE:=by
 intro γ M x M' a W H b Q G R k;cases a;exact k [] W H (.refl _) G .nil
def aCA(a:SE K ta f)(b:SA K tA fa):SA K (sN ta tA) (aA f fa):=by
 intro γ M x M' c W H d Q G R k;obtain⟨⟨y,M1⟩,j,c⟩:=aM c;obtain⟨⟨u,M2⟩,l,c⟩:=aM c;cases c;refine a _ _ _ _ j W H d _ G R fun v m n h o p=>?_;exact b _ _ _ _ l m n d _ o (R.up h) fun vs q r i s t=>k _ q r (h.trans i) s (.cons (p.up i) t)
def aFU(b:SA K tA fa):SE K (aGe tA) (cT fa):=by
 intro γ M x M' a W H i Q G R k;obtain⟨⟨t,M1⟩,j,a⟩:=aM a;obtain⟨ds,l,a⟩:=aM a;by_cases c:ds.length<=sizeLine
 .rw[A4 c]at a;cases a;refine b _ _ _ _ j W H i _ G R fun vs u v m n q=>?_;have d:=dZ l q;refine⟨by rw[<- d.length];exact c,fun p r=>?_⟩;obtain⟨h,s⟩:=n.lay (o:=.tup vs) r;exact k _ _ _ (m.trans h) s ⟨p,vs,rfl,SqT.of bA,aL.same h.ff _ _ d⟩
 .rw[B2 c]at a;cases a
def aEA(b:SA K tA fa):SE K (aEI tA) (hX fa):=by
 intro γ M x M' a W H i Q G R k;obtain⟨⟨t,M1⟩,j,a⟩:=aM a;obtain⟨ds,l,a⟩:=aM a;by_cases c:ds.length<=sizeLine
 .rw[A4 c]at a;cases a;refine b _ _ _ _ j W H i _ G R fun vs u v m n q=>?_;have d:=dZ l q;refine⟨by rw[<- d.length];exact c,fun p r=>?_⟩;obtain⟨h,s⟩:=n.lay (o:=.lst vs) r;exact k _ _ _ (m.trans h) s ⟨p,vs,rfl,SqL.of bA,aL.same h.ff _ _ d⟩
 .rw[B2 c]at a;cases a
def Good.newV(g:Good K W M H):dI K (W.more p) (.c M.length) (.ref p):=by
 refine⟨?_,?_⟩
 .show M.length<W.n+1;rw[g.n];exact A0y _
 .show V.ref p=.ref (if M.length=W.n then p else W.α M.length);rw[A4 g.n.symm]
def aHd(b:SA K tA fa):SE K (aEI tA) (dS fa):=by
 intro γ M x M' a W H l Q G R k;obtain⟨⟨d,M1⟩,m,a⟩:=aM a;by_cases h:d.length<=sizeLine
 .have a:(if d.length<=sizeLine then Z (CD.c M1.length,M1++[Cell.lst d])else Y)=Z (x,M'):=a;rw[A4 h]at a;cases a;refine b _ _ _ _ m W H l _ G R fun vs n s q i j=>?_;refine⟨by rw[<- Paired.len j];exact h,fun p r=>?_⟩;exact k _ _ _ (q.trans (n.ext_more p)) (i.new r (c:=.lst d) (o:=.lst vs) j) i.newV
 .have a:(if d.length<=sizeLine then Z (CD.c M1.length,M1++[Cell.lst d])else Y)=Z (x,M'):=a;rw[B2 h]at a;cases a
def aCX{h:FN}(b:SA K tA fa):SE K (XB (spM K h) [] E0 tA) (aH h fa):=by
 intro γ M x M' a W H c Q G R k;obtain⟨⟨d,M1⟩,i,a⟩:=aM a;refine b _ _ _ _ i W H c _ G R fun vs j t l m n=>?_;rw[D8];exact⟨d,M1,j,x,M',m,n,a,fun v o p q r s=>k v o p (l.trans q) r s⟩
def aEj{r:Tf->Hp->VK->Prop}{h:FN}(p:PN K r h)(b:SA K tA fa):SE K (tCB r tA) (aH h fa):=by
 intro γ M x M' a W H c Q G R k;obtain⟨⟨w,M1⟩,d,a⟩:=aM a;refine b _ _ _ _ d W H c _ G R fun vs i j l m n=>?_;exact p _ _ _ _ a i j vs Q m n fun v o q s t u=>k v o q (l.trans s) t u
end
section
variable{K:Fg}{ta tb tc:TE}{f g e:EF}{tt uu:TT}{ft gt:TF}{tA:TA}{fa:AF}{t u:TS}{p q:SF}{tg:TG}{hg:GF}{tgs:TGs}{hgs:GsF}
def aBt:SS K aDW bR:=by
 intro γ M o M' a W H b D G R k;cases a;exact k W H (.refl _) G b R
def aGN(a:SS K t p)(b:SS K u q):SS K (aFg t u) (aZ p q):=by
 intro γ M o M' c W H n D G R k;obtain⟨⟨r,M1⟩,s,c⟩:=aM c;refine a _ _ _ _ s W H n _ G R fun h i j l=>?_;cases r with
 |nx d=>
  intro m v;exact b _ _ _ _ c h i m D l v fun w y z A=>k w y (j.trans z) A
 |bk d=>cases c;exact k h i j l
 |ct d=>cases c;exact k h i j l
 |rt x=>cases c;exact k h i j l
def aBF(a:SE K ta f):SS K (ZE ta) (eZ f):=by
 intro γ M o M' b W H c D G R k;obtain⟨⟨y,M1⟩,h,b⟩:=aM b;cases b;exact a _ _ _ _ h W H c _ G R fun v i j d l m=>k i j d l c (R.up d)
def aEB(a:SE K ta f):SS K (aIe ta) (cD f):=by
 intro γ M o M' b W H c D G R k;obtain⟨⟨y,M1⟩,d,b⟩:=aM b;cases b;exact a _ _ _ _ d W H c _ G R fun v h i j l m=>k h i j l v m
def aHK(c:STt K tt ft)(a:SS K t p)(b:SS K u q):SS K (aHl tt t u) (sIf ft p q):=by
 intro γ M o M' d W H i D G R k;obtain⟨⟨w,M1⟩,x,d⟩:=aM d;refine c _ _ _ _ x W H i _ G R fun r s h v=>?_;cases w with
 |true=>rw[A4 rfl];rw[A4 rfl]at d;exact a _ _ _ _ d r s i D v (R.up h) fun j l m n=>k j l (h.trans m) n
 |false=>rw[B2 A7];rw[B2 A7]at d;exact b _ _ _ _ d r s i D v (R.up h) fun j l m n=>k j l (h.trans m) n
def AL(a:SE K ta f)(b:SG K tg hg):SS K (WQ ta tg) (bD f hg):=by
 intro γ M o M' c W H h D G R k;obtain⟨⟨y,M1⟩,j,c⟩:=aM c;obtain⟨⟨l,M2⟩,m,c⟩:=aM c;cases c;refine a _ _ _ _ j W H h _ G R fun v n r i s w=>?_;exact b _ _ _ _ _ m n r h v _ s (R.up i) w fun d x z A B R2=>k x z (i.trans A) B d R2
def dA.set{a:St}{x:CD}{v:V}(R:dA K W γ a)(i:Nat)(r:dI K W x v):dA K W (γ.set i (Z x)) (a.set i (Z v)):=Paired.set (R:=aCs K W) (show aCs K W (Z x) (Z v)from r) i R
def uW:SG K (zC i) (hName i):=by
 intro x γ M a M' b W H c v Q G R r k;cases b;exact k _ W H (.refl _) G (dA.set R i r)
def aCR:SGs K aHQ gW:=by
 intro xs γ M b M' a W H c vs Q G R r k;cases r with
 |nil=>cases a;exact⟨rfl,k c W H (.refl _) G R⟩
 |cons _ _=>cases a
def XJ(a:SG K tg hg)(b:SGs K tgs hgs):SGs K (aEc tg tgs) (bI hg hgs):=by
 intro xs γ M j M' c W H l vs Q G R r k;cases r with
 |nil=>cases c
 |@cons x v xs vs m n=>
  obtain⟨⟨o,M1⟩,s,c⟩:=aM (show(hg x γ M).bind _=_ from c);refine⟨v,vs,rfl,a _ _ _ _ _ s W H l v _ G R m fun d w y i z A=>?_⟩;exact b _ _ _ _ _ c w y d vs _ z A (bK.up n i) fun h B C D E R2=>k h B C (i.trans D) E R2
def XA{n:Nat}(b:SGs K tgs hgs):SG K (aDb K n tgs) (kE n hgs):=by
 intro x γ M j M' h W H o v Q G R r k;cases x with
 |c _=>cases h
 |f _=>cases h
 |g _=>cases h
 |t xs=>
  have h:(if xs.length=n then hgs (xs.map cdA) γ M else Y)=Z (j,M'):=h;by_cases i:xs.length=n
  .rw[A4 i]at h;obtain⟨a,vs,rfl,m,l⟩:=r;have s:=QD l;exact⟨a,vs,rfl,SqT.of (G.fh _ _ m),by rw[<- i];simpa using(Paired.len l).symm,b _ _ _ _ _ h W H o vs Q G R s k⟩
  .rw[B2 i]at h;cases h
 |d x=>
  cases x with
  |tuple ds=>
   have h:(if ds.length=n then hgs (ds.map .d) γ M else Y)=Z (j,M'):=h;by_cases i:ds.length=n
   .rw[A4 i]at h;obtain⟨a,vs,rfl,m,l⟩:=(show ∃a vs,v=.ref a/\SqT K W.F a vs/\aL K W.F ds vs from r);exact⟨a,vs,rfl,G.fh.seqT m,by rw[<- l.length];exact i,b _ _ _ _ _ h W H o vs Q G R (eW l) k⟩
   .rw[B2 i]at h;cases h
  |_=>cases h
def P3(K:Fg)(r:V->V->V->Hp->(Hp->Prop)->Prop)(f:F3):Prop:=∀x y z M M',f x y z M=Z M'->∀(W:Wd)(H:Hp)(v u w:V)(Q:Hp->Prop),Good K W M H->dI K W x v->dI K W y u->dI K W z w->(∀W' H',W.Ext W'->Good K W' M' H'->Q H')->r v u w H Q
def aGj{r:aCU}{s:F3}(p:P3 K r s)(a:SE K ta f)(b:SE K tb g):SG K (aIG ta tb r) (hSub f g s):=by
 intro x γ M m M' c W H j v Q G R n k;obtain⟨⟨o,M1⟩,w,c⟩:=aM c;obtain⟨⟨i,M2⟩,y,c⟩:=aM c;obtain⟨U,z,c⟩:=aM c;cases c;refine a _ _ _ _ w W H j _ G R fun A B C d D E=>?_;refine b _ _ _ _ y B C j _ D (R.up d) fun I J L h N O=>?_;exact p _ _ _ _ _ z J L A I v _ N (E.up h) O (n.up (d.trans h)) fun P S l T=>k j P S ((d.trans h).trans l) T (R.up ((d.trans h).trans l))
def LI(K:Fg)(J:It)(xs:T8)(W:Wd):Prop:=∀W' M' H',W.Ext W'->Good K W' M' H'->
 (∀i x,xs[i]?=Z x->J.go i H'/\∀y b,J.yld i H' y b->∃a,W'.Ext a/\Good K a M' b/\dI K a x y)/\J.stop xs.length H'
def SI(K:Fg)(wi:TI)(f:AF):Prop:=∀γ M xs M',f γ M=Z (xs,M')->∀(W:Wd)(H:Hp)(a:St)(R:It->Hp->Prop),Good K W M H->dA K W γ a->(∀J W' H',W.Ext W'->Good K W' M' H'->LI K J xs W'->R J H')->wi a H R
def aY(f:EF):AF:=fun γ M=>(f γ M).bind fun r=>match r.1 with
 |.d x=>(aJ x).bind fun ds=>Z (ds.map .d,r.2)
 |_=>Y
def aFq(a:SE K ta f):SI K (aBv K ta) (aY f):=by
 intro γ M xs M' h W H J R G Rs k;obtain⟨⟨y,M1⟩,L,h⟩:=aM h;cases y with
 |c _=>cases h
 |t _=>cases h
 |f _=>cases h
 |g _=>cases h
 |d y=>
  obtain⟨ds,N,h⟩:=aM (show(aJ y).bind _=_ from h);cases h;refine a _ _ _ _ L W H J _ G Rs fun v z D E A O=>?_;obtain⟨p,vs,rfl,hs,I⟩:=jM (show Rep K z.F y v from O) N;refine⟨p,rfl,?_⟩
  have item:∀(i:Nat)(x:CD)(j:Wd),z.Ext j->(ds.map CD.d)[i]?=Z x->∃u,vs[i]?=Z u/\dI K j x u:=fun i x j m o=>by
   obtain⟨u,n,r⟩:=Paired.get (eW I) o;exact⟨u,n,r.up m⟩
  have l:(ds.map CD.d).length=vs.length:=by rw[A0];exact I.length
  rcases hs with hs|hs
  .refine .inl ⟨vs,A.fh.seq hs,k _ z D E A fun j M2 B m s=>?_⟩;have b:SqL K B p vs:=s.fh.seq (m.ff.seq hs);refine⟨fun i x o=>?_,?_⟩
   .obtain⟨u,n,r⟩:=item i x j m o;refine⟨⟨vs,u,b,n⟩,fun P C w=>⟨j,.refl _,by rw[w.1];exact s,?_⟩⟩;have:=w.2 vs b;rw[n]at this;cases this;exact r
   .rw[l];exact⟨vs,b,B4 _⟩
  .refine .inr ⟨vs,A.fh.seqT hs,k _ z D E A fun j M2 B m s=>?_⟩;have b:SqT K B p vs:=s.fh.seqT (m.ff.seqT hs);refine⟨fun i x o=>?_,?_⟩
   .obtain⟨u,n,r⟩:=item i x j m o;refine⟨⟨vs,u,b,n⟩,fun P C w=>⟨j,.refl _,by rw[w.1];exact s,?_⟩⟩;have:=w.2 vs b;rw[n]at this;cases this;exact r
   .rw[l];exact⟨vs,b,B4 _⟩
noncomputable def iE(lo:Int)(n:Nat):T8:=(List.range n).map fun i=>.d (.int (lo+(i:Nat)))
def IU{lo:Int}{i:Nat}{x:CD}(h:(iE lo n)[i]?=Z x):i<n/\x=.d (.int (lo+i)):=by
 unfold iE at h;rw[D6]at h;by_cases hi:i<n
 .rw[A0i hi]at h;exact⟨hi,(D7 h).symm⟩
 .rw[List.getElem?_eq_none_iff.mpr (by simpa using hi)]at h;cases h
noncomputable def cC(i:Int):Bool:=decide (-(2 ^ 62)<=i)&&decide (i<2 ^ 62)
def fS(f:AF):AF:=fun γ M=>(f γ M).bind fun r=>match r.1 with
 |[.d (.int j)]=>if cC j=true then Z (iE 0 j.toNat,r.2)else Y
 |_=>Y
def CT(f:AF):AF:=fun γ M=>(f γ M).bind fun r=>match r.1 with
 |[.d (.int i),.d (.int j)]=>if cC i=true/\cC j=true then Z (iE i (j-i).toNat,r.2)else Y
 |_=>Y
def CS{lo:Int}:LI K (Itr lo n) (iE lo n) W:=fun W' M' H' e G=>
 ⟨fun i x a=>⟨(IU a).1,fun y c b=>⟨W',.refl _,by rw[b.1];exact G,by rw[(IU a).2];exact b.2⟩⟩,by show n<=_;simp[iE]⟩
def cP(h:cC i=true):-(2 ^ 62)<=i/\i<2 ^ 62:=by
 unfold cC at h;rw[B8]at h;exact⟨D9 h.1,D9 h.2⟩
def aBH(b:SA K tA fa):SI K (aDI tA) (fS fa):=by
 intro γ M xs M' a W H c R G Rs k;obtain⟨⟨s,M1⟩,d,a⟩:=aM a;refine b _ _ _ _ d W H c _ G Rs fun vs h i l m n=>?_;revert a;dsimp only;split
 .rename_i j;intro a;by_cases hs:cC j=true
  .rw[A4 hs]at a;cases a;cases n with
   |cons r o=>
    cases o;exact⟨j,by rw[show _=V.int j from r],(cP hs).1,(cP hs).2,k _ h i l m CS⟩
  .rw[B2 hs]at a;cases a
 .intro a;cases a
def aDl(b:SA K tA fa):SI K (aDZ tA) (CT fa):=by
 intro γ M xs M' a W H d R G Rs k;obtain⟨⟨x,M1⟩,h,a⟩:=aM a;refine b _ _ _ _ h W H d _ G Rs fun vs l m n o s=>?_;revert a;dsimp only;split
 .rename_i i j;intro a;by_cases hs:cC i=true/\cC j=true
  .rw[A4 hs]at a;cases a;cases s with
   |cons r v=>
    cases v with
    |cons w c=>
     cases c;exact⟨i,j,by rw[show _=V.int i from r,show _=V.int j from w],⟨(cP hs.1).1,(cP hs.1).2,(cP hs.2).1,(cP hs.2).2⟩,k _ l m n o CS⟩
  .rw[B2 hs]at a;cases a
 .intro a;cases a
def aHp{wi:TI}(i:SI K wi fa)(a:SG K tg hg)(b:SS K t p):SS K (aID wi tg t) (gV fa hg p):=by
 intro γ M o M' w W H σ D G R k;obtain⟨⟨xs,M1⟩,h1,w⟩:=aM w;have w:hV hg p xs γ M1=Z (o,M'):=w;refine i _ _ _ _ h1 W H σ _ G R fun J U H1 C G1 gv=>?_;refine⟨fun j m d H'=>∃h M2 s,j<=xs.length/\m=xs.length-j/\U.Ext s/\Good K s M2 H'/\dA K s h d/\hV hg p (xs.drop j) h M2=Z (o,M'),⟨_,γ,M1,U,E9 _,rfl,.refl _,G1,R.up C,w⟩,?_⟩;rintro j m d H' ⟨h,M2,s,hj,rfl,z,V,R2,c⟩;obtain⟨O,P⟩:=gv s M2 H' z V;by_cases v:j<xs.length
 .obtain⟨go,yl⟩:=O j xs[j] (B1 v);rw[Y7 v]at c;refine .inr ⟨go,fun A E=>∃l I B,s.Ext B/\Good K B I E/\dA K B l A/\hV hg p (xs.drop (j+1)) l I=Z (o,M'),?_,fun y E hy=>?_⟩
  .rintro A E ⟨l,I,B,e3,G3,R3,h3⟩;exact⟨_,by omega,l,I,B,v,rfl,z.trans e3,G3,R3,h3⟩
  .obtain⟨W8,X,G8,ry⟩:=yl y E hy;obtain⟨⟨a0,M4⟩,h4,c⟩:=aM (show(hg xs[j] h M2).bind _=_ from c);obtain⟨⟨o5,M5⟩,h5,c⟩:=aM c;refine a _ _ _ _ _ h4 W8 _ d y _ G8 (R2.up X) ry fun Q W4 H4 e4 G4 R4=>?_;refine b _ _ _ _ h5 W4 H4 Q _ G4 R4 fun L H5 e5 N=>?_;have n:=(X.trans e4).trans e5;cases o5 with
   |nx r=>exact fun S T=>⟨r,M5,L,n,N,T,c⟩
   |ct r=>exact fun S T=>⟨r,M5,L,n,N,T,c⟩
   |bk r=>cases c;exact k L H5 ((C.trans z).trans n) N
   |rt x=>cases c;exact k L H5 ((C.trans z).trans n) N
 .have e:j=xs.length:=by omega
  subst e;rw[A0z]at c;cases c;exact .inl ⟨P,k s H' (C.trans z) V d R2⟩
def AQ{W:Wd}{γ:Ga}{a:St}(R:dA K W γ a):∀cap:T5,dA K W (jS cap γ) (yB cap a)
 |[]=>.nil
 |none::r=>.cons True.intro (AQ R r)
 |some j::r=>by
  refine .cons ?_ (AQ R r);show aCs K W ((γ[j]?).join) ((a[j]?).join);cases e:γ[j]? with
  |none=>
   have:a[j]?=Y:=by
    have d:=Paired.len R;exact List.getElem?_eq_none_iff.mpr (by have:=List.getElem?_eq_none_iff.mp e;omega)
   rw[this];exact True.intro
  |some x=>
   obtain⟨y,b,c⟩:=Paired.get R e;rw[b];exact c
def GG{g:GF}{c:TF}{e:EF}:∀{xs:T8}{γ:Ga}{M:Sto}{ys:T8}{M':Sto},lcF g c e xs γ M=Z (ys,M')->ys.length<=xs.length
 |[],_,_,_,_=>fun h=>by cases h;exact E9 _
 |x::xs,γ,M,ys,M'=>fun h=>by
  obtain⟨⟨a,M1⟩,d,h⟩:=aM (show(g x γ M).bind _=_ from h);obtain⟨⟨b,M2⟩,i,h⟩:=aM h;cases b with
  |true=>
   rw[A4 rfl]at h;obtain⟨⟨y,j⟩,k,h⟩:=aM h;obtain⟨⟨l,m⟩,h4,h⟩:=aM h;cases h;have:=GG h4;simp only[List.length_cons];omega
  |false=>
   rw[B2 A7]at h;have:=GG h;simp only[List.length_cons];omega
def aBc{wi:TI}{cap:T5}{te:TE}{I:EF}(i:SI K wi fa)(a:SG K tg hg)(c:STt K tt ft)(b:SE K te I){xs:T8}(A:xB cap fa hg ft I γ M=Z (xs,M'))
 {W:Wd} {H:Hp} {X:St} {Q:VK} (G:Good K W M H) (R:dA K W γ X) (k:∀vs W' H',W.Ext W'->Good K W' M' H'->bK K W' xs vs->∀p,H' p=Y->Q (.ref p) (upd H' p (.lst vs))):tLc cap wi tg tt te X H Q:=by
 obtain⟨⟨n,M1⟩,h1,A⟩:=aM A;have A:(if n.length<=sizeLine then lcF hg ft I n (jS cap γ) M1 else Y)=Z (xs,M'):=A;by_cases hl:n.length<=sizeLine
 .rw[A4 hl]at A;refine i _ _ _ _ h1 W H X _ G R fun J W1 H1 e1 G1 gv=>?_
  refine⟨fun j m acc C H'=>∃r M2 B pre s,j<=n.length/\m=n.length-j/\acc.length<=j/\W1.Ext B/\Good K B M2 H'/\dA K B r C/\bK K B pre acc/\pre++s=xs/\lcF hg ft I (n.drop j) r M2=Z (s,M'),
   ⟨_,jS cap γ,M1,W1,[],xs,E9 _,rfl,E9 _,.refl _,G1,AQ (R.up e1) cap,.nil,rfl,A⟩,?_⟩
  rintro j m acc C H' ⟨r,M2,B,pre,s,hj,rfl,a5,e2,G2,R2,rp,P,d⟩;obtain⟨a0,a1⟩:=gv B M2 H' e2 G2;by_cases D:j<n.length
  .obtain⟨go,yl⟩:=a0 j n[j] (B1 D);rw[Y7 D]at d;refine .inr ⟨go,by omega,fun o L S=>∃w T E h l,o.length<=j+1/\B.Ext E/\Good K E T S/\dA K E w L/\bK K E h o/\h++l=xs/\lcF hg ft I (n.drop (j+1)) w T=Z (l,M'),?_,fun y S hy=>?_⟩
   .rintro o L S ⟨w,T,E,h,l,a2,e3,G3,R3,a3,a4,h3⟩;exact⟨_,by omega,w,T,E,h,l,D,rfl,a2,e2.trans e3,G3,R3,a3,a4,h3⟩
   .obtain⟨W8,e8,G8,ry⟩:=yl y S hy;obtain⟨⟨N,M4⟩,h4,d⟩:=aM (show(hg n[j] r M2).bind _=_ from d);obtain⟨⟨b5,M5⟩,h5,d⟩:=aM d;refine a _ _ _ _ _ h4 W8 _ C y _ G8 (R2.up e8) ry fun O W4 H4 e4 G4 U=>?_;refine c _ _ _ _ h5 W4 H4 O _ G4 U fun W5 H5 V G5=>?_;have x:=(e8.trans e4).trans V;cases b5 with
    |true=>
     rw[A4 rfl]at d;obtain⟨⟨z,M6⟩,h6,d⟩:=aM d;obtain⟨⟨zs,M7⟩,h7,d⟩:=aM d;cases d;refine .inl ⟨rfl,b _ _ _ _ h6 W5 H5 O _ G5 (U.up V) fun v W6 H6 e6 G6 r6=>?_⟩;refine⟨N,M6,W6,pre++[z],zs,by rw[A6];simp only[List.length_singleton];omega,x.trans e6,G6,U.up (V.trans e6),Paired.app (bK.up rp (x.trans e6)) (.cons r6 .nil),by rw[<- P,F0];rfl,h7⟩
    |false=>
     rw[B2 A7]at d;exact .inr ⟨rfl,N,M5,W5,pre,s,by omega,x,G5,U.up V,bK.up rp x,P,d⟩
  .have e:j=n.length:=by omega
   subst e;rw[A0z]at d;cases d;rw[D8]at P;subst P;exact .inl ⟨a1,k acc B H' (e1.trans e2) G2 rp⟩
 .rw[B2 hl]at A;cases A
def TM{cap:T5}{fa:AF}{hg:GF}{ft:TF}{d:EF}{xs:T8}(a:xB cap fa hg ft d γ M=Z (xs,M')):xs.length<=sizeLine:=by
 obtain⟨⟨b,M1⟩,h,a⟩:=aM a;have a:(if b.length<=sizeLine then lcF hg ft d b (jS cap γ) M1 else Y)=Z (xs,M'):=a;by_cases c:b.length<=sizeLine
 .rw[A4 c]at a;exact O7 (GG a) c
 .rw[B2 c]at a;cases a
def aDE{wi:TI}{cap:T5}{h:TE}{j:EF}(i:SI K wi fa)(a:SG K tg hg)(c:STt K tt ft)(b:SE K h j):SE K (tLc cap wi tg tt h) (fLc cap fa hg ft j):=by
 intro γ M x M' d W H A Q G R k;obtain⟨⟨B,M1⟩,n,d⟩:=aM d;obtain⟨ds,r,d⟩:=aM d;by_cases l:ds.length<=sizeLine
 .rw[A4 l]at d;cases d;refine aBc i a c b n G R fun vs C D s v w p y=>?_;obtain⟨m,z⟩:=v.lay (o:=.lst vs) y;exact k _ _ _ (s.trans m) z ⟨p,vs,rfl,SqL.of bA,aL.same m.ff _ _ (dZ r w)⟩
 .rw[B2 l]at d;cases d
def aAm{wi:TI}{cap:T5}{j:TE}{l:EF}(i:SI K wi fa)(a:SG K tg hg)(c:STt K tt ft)(b:SE K j l):SE K (tLc cap wi tg tt j) (EJ cap fa hg ft l):=by
 intro γ M x M' d W H y Q G R k;obtain⟨⟨h,M1⟩,m,d⟩:=aM d;have d:(if h.length<=sizeLine then Z (CD.c M1.length,M1++[Cell.lst h])else Y)=Z (x,M'):=d;rw[A4 (TM m)]at d;cases d;refine aBc i a c b m G R fun vs r z s n v p w=>?_;exact k _ _ _ (s.trans (r.ext_more p)) (n.new w (c:=.lst h) (o:=.lst vs) v) n.newV
def aGr:STt K aHL cF:=by
 intro γ M x M' a W H b Q G R k;cases a;exact k W H (.refl _) G
def bK.some{W:Wd}:∀{xs:T8}{vs:Tf},bK K W xs vs->dA K W (xs.map Z) (vs.map Z)
 |_,_,.nil=>.nil
 |_,_,.cons r t=>.cons r (bK.some t)
def rD{W:Wd}:∀n:Nat,dA K W (List.replicate n Y) (List.replicate n Y)
 |0=>.nil
 |n+1=>.cons True.intro (rD n)
def Def.okM{P:Uf}{w:World}{mg:Str->Ti}{base:Heap}{x:Str}{st:Stmt}{N ps:Te}{k:Nat}{b:SF}{q:Bool}(D:Def K mg x st)(S:bC N ps (aN st))
 (n:∀(kV doc pm:Ua)(an:Tk)(cdv ct:Ua)(us:T7),us.length=ps.length->bindArgs (PySem.W.fnOf x x (gK st) (cS st) (aN st) .none kV doc pm an cdv ct) ⟨us,[]⟩=pure (ps.zip us))
 (c:∀(f:Ud)(cdv:Ua)(A:Ug)(outer:Tx Env)(s:Uc)(H:Hp)(E:XK),eJ k (A.deeper (envOfC x (aN st) s.heap.objs.size f cdv)) q->
  ∃t,PSs (nZ CX0 P w K mg base N x (aN st) f cdv A outer s H E q).nox (cS st) t/\SS K t b):Callee P w K mg base (k+1) x ps (spM K (fnF ps.length N.length b)) q:=by
 have len:∀vs H Q E,spM K (fnF ps.length N.length b) vs H Q E->vs.length=ps.length:=fun vs H Q E h=>by
  obtain⟨xs,M,W,y,M',G,R,a,_⟩:=h;by_cases d:xs.length=ps.length
  .rw[<- Paired.len R];exact d
  .unfold fnF at a;rw[B2 d]at a;cases a
 refine D.ok S n len fun f cdv A outer s H vs Q E z h=>?_;obtain⟨t,B,hS⟩:=c f cdv A outer s H E z;refine⟨t,B,?_⟩;obtain⟨xs,M,W,y,M',G,R,a,k⟩:=h;by_cases d:xs.length=ps.length
 .unfold fnF at a;rw[A4 d]at a;obtain⟨⟨o,M1⟩,C,a⟩:=aM a
  have I:dA K W (xs.map Z++List.replicate (N.length-xs.length) Y) (start N vs):=by
   unfold start;rw[<- Paired.len R];exact Paired.app (bK.some R) (rD _)
  refine hS _ _ _ _ C W H _ _ G I fun i j l m=>?_;cases o with
  |rt x=>cases a;exact fun v r=>k v i j l m r
  |nx γ=>cases a;exact fun J r=>k .non i j l m rfl
  |bk γ=>cases a
  |ct γ=>cases a
 .unfold fnF at a;rw[B2 d]at a;cases a
end
def EZ(h h':F2):F2:=fun x y M=>match h x y M with
 |some r=>Z r
 |none=>h' x y M
def pI(g:Int->Int->Tz Ub):F2:=fun x y M=>match x,y with
 |.d (.int i),.d (.int j)=>(g i j).bind fun z=>Z (.d z,M)
 |_,_=>Y
def XY{g:Int->Int->Tz Ub}{x y:CD}{z:CD}(h:pI g x y M=Z (z,M')):∃i j w,x=.d (.int i)/\y=.d (.int j)/\g i j=Z w/\z=.d w/\M'=M:=by
 unfold pI at h;split at h
 .rename_i i j;obtain⟨w,a,h⟩:=aM h;cases h;exact⟨i,j,w,rfl,rfl,a,rfl,rfl⟩
 .cases h
section
variable{X:Cx}{K:Fg}
def aAT{g:Int->Int->Int}:P2 K (rI0 fun i j=>.int (g i j)) (pI fun i j=>Z (.int (g i j))):=by
 intro x y M z M' h W H v u Q G a b k;obtain⟨i,j,w,rfl,rfl,c,rfl,rfl⟩:=XY h;cases c;exact⟨i,j,a,b,k _ W H (.refl _) G rfl⟩
def RC{g:Int->Int->Bool}:P2 K (rI0 fun i j=>.bl (g i j)) (pI fun i j=>Z (.bool (g i j))):=by
 intro x y M z M' h W H v u Q G a b k;obtain⟨i,j,w,rfl,rfl,c,rfl,rfl⟩:=XY h;cases c;exact⟨i,j,a,b,k _ W H (.refl _) G rfl⟩
def ifS(c:Bool)(x:Ub):Tz Ub:=if c=true then Z x else Y
def aHs{y:Ub}(h:ifS c x=Z y):c=true/\y=x:=by
 unfold ifS at h;cases c with
 |true=>rw[A4 rfl]at h;cases h;exact⟨rfl,rfl⟩
 |false=>rw[B2 A7]at h;cases h
def aCH{C:Int->Int->Prop}{c:Int->Int->Bool}{g:Int->Int->Int}(a:∀i j,c i j=true->C i j):P2 K (rI C fun i j=>.int (g i j)) (pI fun i j=>ifS (c i j) (.int (g i j))):=by
 intro x y M z M' h W H v u Q G b d k;obtain⟨i,j,w,rfl,rfl,e,rfl,rfl⟩:=XY h;obtain⟨f,rfl⟩:=aHs e;exact⟨i,j,b,d,a i j f,k _ W H (.refl _) G rfl⟩
def aIL:F2:=pI fun i j=>Z (.int (i+j))
def wH:F2:=pI fun i j=>Z (.int (i-j))
def pT(i j:Int):Bool:=decide (i.natAbs<2 ^ 64) || decide (j.natAbs<2 ^ 64) || (decide (i.natAbs<AJ)&&decide (j.natAbs<AJ))
def IG:F2:=pI fun i j=>ifS (pT i j) (.int (i*j))
def zL(_ j:Int):Bool:=decide (0<j)&&decide (j.natAbs<AJ)
def lH:F2:=pI fun i j=>ifS (zL i j) (.int (i / j))
noncomputable def rG(_ j:Int):Bool:=decide (0<j)
def fT:F2:=pI fun i j=>ifS (rG i j) (.int (i % j))
noncomputable def BH(i j:Int):Bool:=decide (0<=j)&&decide (j<=1000000)&&decide (i.natAbs<2 ^ 64)
def aJd:F2:=pI fun i j=>ifS (BH i j) (.int (i ^ j.toNat))
def mulOk_of(h:pT i j=true):JV i j:=by
 unfold pT at h;simp only[Bool.or_eq_true,Bool.and_eq_true,decide_eq_true_eq]at h;rcases h with(h|h)|h
 .exact .inl (.inl ⟨by omega,by omega⟩)
 .exact .inl (.inr ⟨by omega,by omega⟩)
 .exact .inr h
def ltI:F2:=pI fun i j=>Z (.bool (decide (i<j)))
def leI:F2:=pI fun i j=>Z (.bool (decide (i<=j)))
def gtI:F2:=pI fun i j=>Z (.bool (decide (j<i)))
def geI:F2:=pI fun i j=>Z (.bool (decide (j<=i)))
def eqD(neg:Bool):F2:=fun x y M=>match x,y with
 |.d a,.d b=>if (SeqAt.shaped a&&SeqAt.shaped b)=true then Z (.d (.bool (if neg then !PyData.eqv a b else PyData.eqv a b)),M)else Y
 |_,_=>Y
def aDU:P2 K (JG K neg) (eqD neg):=by
 intro x y M z M' h W H v u Q G c d k;unfold eqD at h;split at h
 .rename_i a b;by_cases hs:(SeqAt.shaped a&&SeqAt.shaped b)=true
  .rw[A4 hs]at h;cases h;rw[B8]at hs;exact⟨a,b,Rep.same G.fh _ _ c,Rep.same G.fh _ _ d,hs.1,hs.2,k _ W H (.refl _) G rfl⟩
  .rw[B2 hs]at h;cases h
 .cases h
def inD(neg:Bool):F2:=fun x y M=>match x,y with
 |.d a,.d b=>(aJ b).bind fun ds=>if (SeqAt.shaped a&&ds.all SeqAt.shaped)=true then Z (.d (.bool (if neg then !ds.any fun d=>PyData.eqv d a else ds.any fun d=>PyData.eqv d a)),M)else Y
 |_,_=>Y
def aDF{neg:Bool}:P2 K (UJ K neg) (inD neg):=by
 intro x y M z M' h W H v u Q G c d k;unfold inD at h;split at h
 .rename_i a b;obtain⟨ds,e,h⟩:=aM h;by_cases hs:(SeqAt.shaped a&&ds.all SeqAt.shaped)=true
  .rw[A4 hs]at h;cases h;rw[B8]at hs;obtain⟨p,vs,rfl,f,g⟩:=jM (Rep.same G.fh _ _ d) e;exact⟨a,ds,p,vs,Rep.same G.fh _ _ c,rfl,f,g,hs.1,hs.2,k _ W H (.refl _) G rfl⟩
  .rw[B2 hs]at h;cases h
 .cases h
def aL.nth{i:Nat}{d:Ub}(h:aL K H ds vs)(e:ds[i]?=Z d):∃v,vs[i]?=Z v/\Rep K H d v:=by
 have b:i<vs.length:=by rw[<- h.length];exact(List.getElem?_eq_some_iff.mp e).1
 have c:vs[i]?=Z vs[i]:=B1 b;obtain⟨f,a,r⟩:=h.get c;rw[e]at a;cases a;exact⟨_,c,r⟩
def MC{a:Type}{xs:Tx a}{i:Int}{x:a}(h:atI xs i=Z x):∃j,ixN xs.length i=Z j/\xs[j]?=Z x:=by
 unfold atI at h;exact aM h
def GW{a:Type}{xs:Tx a}{j:Nat}{x:a}(h:ixN xs.length i=Z j)(e:xs[j]?=Z x):atI xs i=Z x:=by
 unfold atI;rw[h];exact e
def ixF:F2:=fun x y M=>match x,y with
 |.d a,.d (.int n)=>(aJ a).bind fun ds=>(atI ds n).bind fun e=>Z (.d e,M)
 |.c i,.d (.int n)=>match M[i]? with
  |some (.lst xs)=>(atI xs n).bind fun e=>Z (e,M)
  |_=>Y
 |.t xs,.d (.int n)=>(atI xs n).bind fun e=>Z (cdA e,M)
 |_,_=>Y
def Good.lstAt{i:Nat}(G:Good K W M H)(h:M[i]?=Z (.lst xs)):∃vs,H (W.α i)=Z (.lst vs)/\bK K W xs vs:=by
 obtain⟨_,o,b,a⟩:=G.cs i _ h (by intro z;cases z);cases o with
 |lst vs=>exact⟨vs,b,a⟩
 |_=>exact False.elim a
def aIS:P2 K (rIx K) ixF:=by
 intro x y M z M' h W H v u Q G B C k;unfold ixF at h;split at h
 .rename_i a n;obtain⟨ds,E,h⟩:=aM h;obtain⟨e,s,h⟩:=aM h;cases h;obtain⟨p,vs,rfl,O,d⟩:=jM (Rep.same G.fh _ _ B) E;obtain⟨j,q,g⟩:=MC s;obtain⟨w,t,J⟩:=d.nth g;have A:=d.length;have b:atI vs n=Z w:=GW (by rw[<- A];exact q) t;obtain⟨P,c,L,hq',l⟩:=jM (show Rep K W.F a (.ref p)from B) E;cases L
  have same:∀m,c[j]?=Z m->Rep K W.F e m:=fun m o=>by
   obtain⟨R,I,h4⟩:=l.nth g;rw[o]at I;cases I;exact h4
  obtain⟨m,o,r⟩:=l.nth g;have f:atI c n=Z m:=GW (by rw[<- l.length];exact q) o;rcases hq' with hq'|hq'
  .exact .inl ⟨p,c,n,m,rfl,C,G.fh.seq hq',f,k _ W H (.refl _) G r⟩
  .exact .inr (.inl ⟨p,c,n,m,rfl,C,G.fh.seqT hq',f,k _ W H (.refl _) G r⟩)
 .rename_i i n;split at h
  .rename_i xs N;obtain⟨e,s,h⟩:=aM h;cases h;obtain⟨vs,D,d⟩:=G.lstAt N;obtain⟨j,q,g⟩:=MC s;obtain⟨w,t,r⟩:=Paired.get d g;have b:atI vs n=Z w:=GW (by rw[<- Paired.len d];exact q) t;rw[show v=.ref (W.α i)from B.2];exact .inl ⟨_,vs,n,w,rfl,C,SqL.of D,b,k _ W H (.refl _) G r⟩
  .cases h
 .rename_i xs n;obtain⟨e,s,h⟩:=aM h;cases h;obtain⟨a,vs,rfl,D,d⟩:=B;obtain⟨j,q,g⟩:=MC s;obtain⟨w,t,r⟩:=Paired.get d g;have b:atI vs n=Z w:=GW (by rw[<- Paired.len d];exact q) t;exact .inr (.inl ⟨_,vs,n,w,rfl,C,SqT.of (G.fh _ _ D),b,k _ W H (.refl _) G (by cases e<;>exact r)⟩)
 .cases h
def bN:FN:=fun xs M=>match xs with
 |[.d a]=>(aJ a).bind fun ds=>Z (.d (.int ds.length),M)
 |[.c i]=>match M[i]? with
  |some (.lst b)=>Z (.d (.int b.length),M)
  |_=>Y
 |[.t xs]=>Z (.d (.int xs.length),M)
 |_=>Y
def aFX:PN K (fun xs H Q=>∃p ys,xs=[.ref p]/\(SqL K H p ys\/SqT K H p ys)/\Q (.int ys.length) H) bN:=by
 intro xs M z M' h W H vs Q G r k;unfold bN at h;split at h
 .rename_i a;obtain⟨ds,e,h⟩:=aM h;cases h;rcases r with _|⟨b,_|_⟩;obtain⟨p,us,rfl,f,c⟩:=jM (Rep.same G.fh _ _ b) e;refine⟨p,us,rfl,f,?_⟩;rw[<- c.length];exact k _ W H (.refl _) G rfl
 .rename_i i;split at h
  .rename_i ys g;cases h;rcases r with _|⟨b,_|_⟩;obtain⟨us,d,c⟩:=G.lstAt g;rw[b.2];refine⟨_,us,rfl,.inl (SqL.of d),?_⟩;rw[<- Paired.len c];exact k _ W H (.refl _) G rfl
  .cases h
 .rename_i xs;cases h;rcases r with _|⟨b,_|_⟩;obtain⟨a,us,rfl,d,c⟩:=b;refine⟨_,us,rfl,.inr (SqT.of (G.fh _ _ d)),?_⟩;rw[<- Paired.len c];exact k _ W H (.refl _) G rfl
 .cases h
def oI:FN:=fun xs M=>match xs with
 |[.d a]=>(aJ a).bind fun ds=>Z (.d (.list ds),M)
 |[.c i]=>match M[i]? with
  |some (.lst b)=>(iU b).bind fun ds=>Z (.d (.list ds),M)
  |_=>Y
 |_=>Y
def aCv:PN K (fun xs H Q=>∃p ys,xs=[.ref p]/\(SqL K H p ys\/SqT K H p ys)/\∀l,H l=Y->Q (.ref l) (upd H l (.lst ys))) oI:=by
 intro xs M z M' h W H vs Q G r k;unfold oI at h;split at h
 .rename_i a;obtain⟨ds,c,h⟩:=aM h;cases h;rcases r with _|⟨d,_|_⟩;obtain⟨p,us,rfl,j,e⟩:=jM (show Rep K W.F a _ from d) c;refine⟨p,us,rfl,j.imp (fun z=>G.fh.seq z) (fun z=>G.fh.seqT z),fun l f=>?_⟩;obtain⟨b,g⟩:=G.lay (o:=.lst us) f;exact k _ _ _ b g ⟨l,us,rfl,SqL.of bA,aL.same b.ff _ _ e⟩
 .rename_i i;split at h
  .rename_i ys m;obtain⟨ds,c,h⟩:=aM h;cases h;rcases r with _|⟨d,_|_⟩;obtain⟨us,n,e⟩:=G.lstAt m;rw[d.2];refine⟨_,us,rfl,.inl (SqL.of n),fun l f=>?_⟩;obtain⟨b,g⟩:=G.lay (o:=.lst us) f;exact k _ _ _ b g ⟨l,us,rfl,SqL.of bA,aL.same b.ff _ _ (dZ c e)⟩
  .cases h
 .cases h
def cE:FN:=fun xs M=>match xs with
 |[.d (.list ds)]=>Z (.d (.tuple ds),M)
 |[.d (.tuple ds)]=>Z (.d (.tuple ds),M)
 |[.c i]=>match M[i]? with
  |some (.lst a)=>(iU a).bind fun ds=>Z (.d (.tuple ds),M)
  |_=>Y
 |_=>Y
def aBn:PN K (fun xs H Q=>∃p ys,xs=[.ref p]/\((SqL K H p ys/\∀l,H l=Y->Q (.ref l) (upd H l (.tup ys)))\/(SqT K H p ys/\Q (.ref p) H))) cE:=by
 intro xs M z M' h W H vs Q G r k;unfold cE at h;split at h
 .rename_i ds;cases h;rcases r with _|⟨b,_|_⟩;obtain⟨p,us,rfl,e,c⟩:=(show ∃a us,_=V.ref a/\SqL K W.F a us/\aL K W.F ds us from b);refine⟨p,us,rfl,.inl ⟨G.fh.seq e,fun l f=>?_⟩⟩;obtain⟨d,g⟩:=G.lay (o:=.tup us) f;exact k _ _ _ d g ⟨l,us,rfl,SqT.of bA,aL.same d.ff _ _ c⟩
 .rename_i ds;cases h;rcases r with _|⟨b,_|_⟩;obtain⟨p,us,rfl,e,c⟩:=(show ∃a us,_=V.ref a/\SqT K W.F a us/\aL K W.F ds us from b);exact⟨p,us,rfl,.inr ⟨G.fh.seqT e,k _ W H (.refl _) G ⟨p,us,rfl,e,c⟩⟩⟩
 .rename_i i;split at h
  .rename_i ys j;obtain⟨ds,m,h⟩:=aM h;cases h;rcases r with _|⟨b,_|_⟩;obtain⟨us,n,c⟩:=G.lstAt j;rw[b.2];refine⟨_,us,rfl,.inl ⟨SqL.of n,fun l f=>?_⟩⟩;obtain⟨d,g⟩:=G.lay (o:=.tup us) f;exact k _ _ _ d g ⟨l,us,rfl,SqT.of bA,aL.same d.ff _ _ (dZ m c)⟩
  .cases h
 .cases h
def wM(T:String)(f:EF):EF:=fun γ M=>(f γ M).bind fun r=>match r.1 with
 |.d a=>Z (.d (.bool (tO T a)),r.2)
 |_=>Y
def aGd{T:String}{e:TE}{f:EF}(hT:T∈asked)(a:SE K e f):SE K (tCB (aFH K) (sN e (sN (tC (.ty T)) SZ))) (wM T f):=by
 intro γ M x M' b W H i Q G R k;obtain⟨⟨y,M1⟩,j,b⟩:=aM b;cases y with
 |c _=>cases b
 |t _=>cases b
 |f _=>cases b
 |g _=>cases b
 |d y=>
  cases b;refine a _ _ _ _ j W H i _ G R fun v l m n h o=>?_;exact⟨v,T,y,rfl,hT,Rep.same h.fh _ _ o,k _ l m n h rfl⟩
def HV(T U:String)(f:EF):EF:=fun γ M=>(f γ M).bind fun r=>match r.1 with
 |.d a=>Z (.d (.bool (tO T a || tO U a)),r.2)
 |_=>Y
def aCq{T U:String}{h:TE}{f:EF}(hT:T∈asked)(l:U∈asked)(a:SE K h f):SE K (tCB (YZ K) (sN h (sN (aGe (sN (tC (.ty T)) (sN (tC (.ty U)) SZ))) SZ))) (HV T U f):=by
 intro γ M x M' b W H m Q G R k;obtain⟨⟨y,M1⟩,n,b⟩:=aM b;cases y with
 |c _=>cases b
 |t _=>cases b
 |f _=>cases b
 |g _=>cases b
 |d y=>
  cases b;refine a _ _ _ _ n W H m _ G R fun v w z q r s=>?_;refine⟨by show 2<=sizeLine;decide,fun p u=>?_⟩;obtain⟨i,j⟩:=r.lay (o:=.tup [.ty T,.ty U]) u;refine⟨v,p,[T,U],y,rfl,bA,fun S hS=>?_,Rep.same (i.ff.trans j.fh) _ _ s,?_⟩
  .rcases List.mem_cons.mp hS with rfl|hS
   .exact hT
   .rw[List.mem_singleton.mp hS];exact l
  .have e:([T,U].any fun T=>tO T y)=(tO T y || tO U y):=by simp
   rw[e];exact k _ _ _ (q.trans i) j rfl
def aEH(M:Sto):CD->Tz Bool
 |.d .none=>Z false
 |.d (.bool b)=>Z b
 |.d (.int i)=>Z (i != 0)
 |.d (.list ds)=>Z (!ds.isEmpty)
 |.d (.tuple ds)=>Z (!ds.isEmpty)
 |.c i=>match M[i]? with
  |some (.lst xs)=>Z (!xs.isEmpty)
  |some (.dk kvs)=>Z (!kvs.isEmpty)
  |_=>Y
 |_=>Y
def LB(f:EF):TF:=fun γ M=>(f γ M).bind fun r=>(aEH r.2 r.1).bind fun b=>Z (b,r.2)
def mQ{a b:Type}{xs:Tx a}{ys:Tx b}(h:xs.length=ys.length):xs.isEmpty=ys.isEmpty:=by
 cases xs<;>cases ys<;>simp at h ⊢
def aFY{u:TE}{f:EF}(a:SE K u f):STt K (fun q H Q=>u q H fun x H'=>∃k,aDg K x H' k/\Q k H') (LB f):=by
 intro γ M b M' j W H q Q G R k;obtain⟨⟨y,M1⟩,A,j⟩:=aM j;obtain⟨I,e,j⟩:=aM j;cases j;refine a _ _ _ _ A W H q _ G R fun v l B C m h=>⟨_,?_,k l B C m⟩;cases y with
 |d y=>
  cases y with
  |none=>cases e;rw[show v=.non from h];rfl
  |bool c=>cases e;rw[show v=.bl _ from h];rfl
  |int i=>cases e;rw[show v=.int _ from h];rfl
  |str x=>cases e
  |list ds=>
   cases e;obtain⟨p,us,rfl,r,n⟩:=(show ∃a us,_=V.ref a/\SqL K l.F a us/\aL K l.F ds us from h);exact .inl ⟨us,m.fh.seq r,by rw[mQ n.length]⟩
  |tuple ds=>
   cases e;obtain⟨p,us,rfl,r,n⟩:=(show ∃a us,_=V.ref a/\SqT K l.F a us/\aL K l.F ds us from h);exact .inr (.inl ⟨us,m.fh.seqT r,by rw[mQ n.length]⟩)
  |dict kvs=>cases e
 |t _=>cases e
 |f _=>cases e
 |g _=>cases e
 |c i=>
  rw[h.2];unfold aEH at e;dsimp only at e;split at e
  .rename_i xs s;cases e;obtain⟨us,D,n⟩:=m.lstAt s;exact .inl ⟨us,SqL.of D,by rw[mQ (Paired.len n)]⟩
  .rename_i kvs s;cases e;obtain⟨_,o,E,w⟩:=m.cs i _ s (by intro z;cases z);cases o with
   |dK us=>exact .inr (.inr ⟨us,E,by rw[mQ (Paired.len w)]⟩)
   |_=>exact False.elim w
  .cases e
def boolsOf:T6->Tz (Tx Bool)
 |[]=>Z []
 |.bool b::r=>(boolsOf r).bind fun bs=>Z (b::bs)
 |_::_=>Y
def kT:FN:=fun xs M=>match xs with
 |[.d (.list ds)]=>(boolsOf ds).bind fun bs=>Z (.d (.bool (bs.all id)),M)
 |_=>Y
def anyF:FN:=fun xs M=>match xs with
 |[.d (.list ds)]=>(boolsOf ds).bind fun bs=>Z (.d (.bool (bs.any id)),M)
 |_=>Y
def wC{H:Hp}:∀{ds:T6}{bs:Tx Bool}{vs:Tf},boolsOf ds=Z bs->aL K H ds vs->vs=bs.map V.bl
 |[],bs,vs=>fun e h=>by cases e;exact h
 |.bool b::r,bs,vs=>fun e h=>by
  obtain⟨cs,a,e⟩:=aM (show(boolsOf r).bind _=_ from e);cases e;obtain⟨v,us,rfl,c,d⟩:=h;rw[show v=V.bl b from c,wC a d];rfl
 |.none::_,_,_=>fun e _=>by cases e
 |.int _::_,_,_=>fun e _=>by cases e
 |.str _::_,_,_=>fun e _=>by cases e
 |.list _::_,_,_=>fun e _=>by cases e
 |.tuple _::_,_,_=>fun e _=>by cases e
 |.dict _::_,_,_=>fun e _=>by cases e
def TX(f:X.calm=true):dM X (.builtin "all") (fun xs H Q=>∃(p:Ud)(bs:Tx Bool),xs=[.ref p]/\SqL X.K H p (bs.map V.bl)/\Q (.bl (bs.all id)) H):=by
 intro pins s v H xs us Q I r h;obtain⟨p,bs,rfl,g,q⟩:=h;obtain⟨u,rfl,j⟩:=vals1 r;cases (show u=Value.ref p from j);obtain⟨k,l,c,w⟩:=I.list g;have a:=bH.bools l;subst a;refine call_all_walk (wpAny_pyIter_list c.isList ?_);have d:p<s.heap.objs.size:=c.lt;refine⟨_,_,_,_,_,_,(fun i=>bs.getD i false),rfl,Walks.list (A:=X.A.in1) (I.ok.hd f) s.heap.objs.size p (C8 d) (bs.map Value.bool).toArray,⟨⟨_,C6 _ rfl,rfl,rfl⟩,c.isList.at fun o e=>A3 _ e⟩,xA,fun h' m n=>?_⟩;have t:((bs.map Value.bool).toArray).size=bs.length:=by simp
 rw[t,all_range];refine⟨.bl _,H,I.kept (h':=h') (t':=m) fun b o e=>?_,rfl,q⟩;exact n b o (fun z=>by rw[List.mem_singleton]at z;exact absurd (B7 e) (by rw[z];exact L8 _)) (A3 _ e)
def TL(f:X.calm=true):dM X (.builtin "any") (fun xs H Q=>∃(p:Ud)(bs:Tx Bool),xs=[.ref p]/\SqL X.K H p (bs.map V.bl)/\Q (.bl (bs.any id)) H):=by
 intro pins s v H xs us Q I r h;obtain⟨p,bs,rfl,g,q⟩:=h;obtain⟨u,rfl,j⟩:=vals1 r;cases (show u=Value.ref p from j);obtain⟨k,l,c,w⟩:=I.list g;have a:=bH.bools l;subst a;refine call_any_walk (wpAny_pyIter_list c.isList ?_);have d:p<s.heap.objs.size:=c.lt;refine⟨_,_,_,_,_,_,(fun i=>bs.getD i false),rfl,Walks.list (A:=X.A.in1) (I.ok.hd f) s.heap.objs.size p (C8 d) (bs.map Value.bool).toArray,⟨⟨_,C6 _ rfl,rfl,rfl⟩,c.isList.at fun o e=>A3 _ e⟩,xA,fun h' m n=>?_⟩;have t:((bs.map Value.bool).toArray).size=bs.length:=by simp
 rw[t,any_range];refine⟨.bl _,H,I.kept (h':=h') (t':=m) fun b o e=>?_,rfl,q⟩;exact n b o (fun z=>by rw[List.mem_singleton]at z;exact absurd (B7 e) (by rw[z];exact L8 _)) (A3 _ e)
def aEP:PN K (fun xs H Q=>∃(p:Ud)(bs:Tx Bool),xs=[.ref p]/\SqL K H p (bs.map V.bl)/\Q (.bl (bs.all id)) H) kT:=by
 intro xs M z M' h W H vs Q G r k;unfold kT at h;split at h
 .rename_i ds;obtain⟨bs,b,h⟩:=aM h;cases h;rcases r with _|⟨c,_|_⟩;obtain⟨p,us,rfl,d,f⟩:=(show ∃a us,_=V.ref a/\SqL K W.F a us/\aL K W.F ds us from c);have e:=wC b f;subst e;exact⟨p,bs,rfl,G.fh.seq d,k _ W H (.refl _) G rfl⟩
 .cases h
def aGY:PN K (fun xs H Q=>∃(p:Ud)(bs:Tx Bool),xs=[.ref p]/\SqL K H p (bs.map V.bl)/\Q (.bl (bs.any id)) H) anyF:=by
 intro xs M z M' h W H vs Q G r k;unfold anyF at h;split at h
 .rename_i ds;obtain⟨bs,b,h⟩:=aM h;cases h;rcases r with _|⟨c,_|_⟩;obtain⟨p,us,rfl,d,f⟩:=(show ∃a us,_=V.ref a/\SqL K W.F a us/\aL K W.F ds us from c);have e:=wC b f;subst e;exact⟨p,bs,rfl,G.fh.seq d,k _ W H (.refl _) G rfl⟩
 .cases h
def EY:F3:=fun x y z M=>match x,y with
 |.c i,.d (.int k)=>match M[i]? with
  |some (.lst xs)=>(ixN xs.length k).bind fun j=>Z (M.set i (.lst (xs.set j z)))
  |_=>Y
 |_,_=>Y
def aGA:P3 K aDM EY:=by
 intro x y z M M' h W H v u w Q G c d e k;unfold EY at h;split at h
 .rename_i i n;split at h
  .rename_i xs a;obtain⟨j,f,h⟩:=aM h;cases h;obtain⟨us,g,b⟩:=G.lstAt a;refine⟨W.α i,us,n,j,c.2,d,g,by rw[<- Paired.len b];exact f,?_⟩;exact k W _ (.refl _) (G.set a (by intro q;cases q) (c':=.lst (xs.set j z)) (show bK K W _ _ from Paired.set (R:=dI K W) e j b))
  .cases h
 .cases h
end
section
variable{X:Cx}{K:Fg}
def JZ(K:Fg):R2:=fun x y H Q=>∃l b xs a,x=.ref l/\y=.ref b/\SqL K H l xs/\SqL K H b a/\xs.length+a.length<=sizeLine/\∀p,H p=Y->Q (.ref p) (upd H p (.lst (xs++a)))
def op_catS:OpR X (binaryOp .Add) (JZ X.K):=by
 intro pins s D H x y v u Q I t w h;obtain⟨l,b,xs,E,rfl,rfl,z,hB,G,q⟩:=h;cases t;cases w;obtain⟨c,r,⟨⟨cls,A,data,sl⟩,n,j,k,B,hd⟩,_⟩:=I.list z;obtain⟨a,m,⟨⟨o,g,data2,i⟩,n2,d,e,p,f⟩,_⟩:=I.list hB;simp only at k hd e f;subst k hd e f;have J:=r.length;have L:=m.length;refine concat_meets ⟨_,j,rfl⟩ ⟨_,d,rfl⟩ noFill_list_add seq_list_add PySem.F.slot_list_add PySem.F.entry_list_add (PySem.F.args_list_add_2 _ _) (list_addW l b c.toArray a.toArray n n2 A g sl i (by rw[C5,C5];omega)) ⟨j,d,?_⟩;have C:c.toArray++a.toArray=(c++a).toArray:=by simp
 rw[C];exact⟨.ref _,_,I.lnew (t':=s.toks) (r.append m) (by rw[A6];omega),rfl,q _ I.fresh⟩
def rA(M:Sto):CD->Tz (T8)
 |.d (.list ds)=>Z (ds.map .d)
 |.c i=>match M[i]? with
  |some (.lst xs)=>Z xs
  |_=>Y
 |_=>Y
def rP{xs:T8}(G:Good K W M H)(h:rA M x=Z xs)(r:dI K W x v):∃p vs,v=.ref p/\SqL K H p vs/\bK K W xs vs:=by
 unfold rA at h;split at h
 .rename_i ds;cases h;obtain⟨p,us,rfl,c,b⟩:=(show ∃a us,_=V.ref a/\SqL K W.F a us/\aL K W.F ds us from r);exact⟨p,us,rfl,G.fh.seq c,eW b⟩
 .rename_i i;split at h
  .rename_i f d;cases h;obtain⟨us,e,b⟩:=G.lstAt d;exact⟨_,us,r.2,SqL.of e,b⟩
  .cases h
 .cases h
def aBf:F2:=fun x y M=>(rA M x).bind fun xs=>(rA M y).bind fun a=>(iU (xs++a)).bind fun ds=>if ds.length<=sizeLine then Z (.d (.list ds),M)else Y
def aDt:P2 K (JZ K) aBf:=by
 intro x y M z M' h W H v u Q G e f k;obtain⟨xs,g,h⟩:=aM h;obtain⟨s,i,h⟩:=aM h;obtain⟨ds,b,h⟩:=aM h;by_cases a:ds.length<=sizeLine
 .rw[A4 a]at h;cases h;obtain⟨p,vs,rfl,j,c⟩:=rP G g e;obtain⟨q,us,rfl,m,hs⟩:=rP G i f;have n:=AN b;rw[A6]at n;refine⟨p,q,vs,us,rfl,rfl,j,m,by rw[<- Paired.len c,<- Paired.len hs];omega,fun l a=>?_⟩;obtain⟨d,r⟩:=G.lay (o:=.lst (vs++us)) a;exact k _ _ _ d r ⟨l,_,rfl,SqL.of bA,aL.same d.ff _ _ (dZ b (Paired.app c hs))⟩
 .rw[B2 a]at h;cases h
def aHa:F2:=fun x y M=>match x,y with
 |.d (.tuple xs),.d (.tuple a)=>if xs≠[]/\xs.length+a.length<=sizeLine then Z (.d (.tuple (xs++a)),M)else Y
 |_,_=>Y
def aL.nil_iff(r:aL K H ds vs):vs=[]↔ds=[]:=by
 have:=r.length;constructor<;>intro h<;>subst h<;>simp at this
 .exact this
 .exact List.eq_nil_of_length_eq_zero this.symm
def aDq:P2 K (XM K) aHa:=by
 intro x y M z M' h W H v u Q G g i k;unfold aHa at h;split at h
 .rename_i xs d;by_cases b:xs≠[]/\xs.length+d.length<=sizeLine
  .rw[A4 b]at h;cases h;obtain⟨p,vs,rfl,e,c⟩:=(show ∃a us,v=V.ref a/\SqT K W.F a us/\aL K W.F xs us from g);obtain⟨q,us,rfl,j,hs⟩:=(show ∃a us,u=V.ref a/\SqT K W.F a us/\aL K W.F d us from i);refine⟨p,q,vs,us,rfl,rfl,G.fh.seqT e,G.fh.seqT j,fun z=>b.1 (c.nil_iff.mp z),by rw[<- c.length,<- hs.length];exact b.2,fun z=>?_,fun z l m=>?_⟩
   .have:d=[]:=hs.nil_iff.mp z;subst this;rw[D8]at k;exact k _ W H (.refl _) G ⟨p,vs,rfl,e,c⟩
   .obtain⟨f,n⟩:=G.lay (o:=.tup (vs++us)) m;exact k _ _ _ f n ⟨l,_,rfl,SqT.of bA,aL.same f.ff _ _ (aL.app c hs)⟩
  .rw[B2 b]at h;cases h
 .cases h
def P2.or(a:P2 K r h)(b:P2 K d h'):P2 K (fun x y H Q=>r x y H Q\/d x y H Q) (EZ h h'):=by
 intro x y M z M' c W H v u Q G f g k;unfold EZ at c;cases e:h x y M with
 |some q=>
  rw[e]at c;cases c;exact .inl (a _ _ _ _ _ e W H v u Q G f g k)
 |none=>
  rw[e]at c;exact .inr (b _ _ _ _ _ c W H v u Q G f g k)
noncomputable def MK(K:Fg):R2:=fun x y H Q=>∃a b c,x=.ref a/\y=.ref b/\SqT K H a []/\SqT K H b c/\Q (.ref b) H
def op_catT0:OpR X (binaryOp .Add) (MK X.K):=by
 intro pins s z H x y v u Q I m o h;obtain⟨a,b,A,rfl,rfl,ha,p,q⟩:=h;cases m;cases o;obtain⟨r,t,⟨⟨cls,w,data,sl⟩,j,k,n,hd⟩,_⟩:=I.tuple ha;obtain⟨c,B,⟨⟨l,g,data2,i⟩,d,e,n2,f⟩,_⟩:=I.tuple p;simp only at k hd e f;subst k hd e f;cases t;exact concat_meets ⟨_,j,rfl⟩ ⟨_,d,rfl⟩ noFill_tuple_add seq_tuple_add PySem.F.slot_tuple_add PySem.F.entry_tuple_add (PySem.F.args_tuple_add_2 _ _) (tuple_addW0 a b #[] c.toArray n n2 w g sl i rfl) ⟨j,d,⟨.ref b,H,I,rfl,q⟩⟩
def VG:F2:=fun x y M=>match x,y with
 |.d (.tuple []),.d (.tuple a)=>Z (.d (.tuple a),M)
 |_,_=>Y
def ZZ:P2 K (MK K) VG:=by
 intro x y M z M' h W H v u Q G d e k;unfold VG at h;split at h
 .rename_i f;cases h;obtain⟨p,vs,rfl,b,g⟩:=(show ∃a us,v=V.ref a/\SqT K W.F a us/\aL K W.F [] us from d);obtain⟨q,us,rfl,c,hs⟩:=(show ∃a us,u=V.ref a/\SqT K W.F a us/\aL K W.F f us from e);rw[show vs=[]from g]at b;exact⟨p,q,us,rfl,rfl,G.fh.seqT b,G.fh.seqT c,k _ W H (.refl _) G ⟨q,us,rfl,c,hs⟩⟩
 .cases h
def eF:F2:=EZ aIL (EZ aBf (EZ VG aHa))
def aAK(K:Fg):R2:=fun x y H Q=>(rI0 fun i j=>.int (i+j)) x y H Q\/JZ K x y H Q\/MK K x y H Q\/XM K x y H Q
def aDe:OpR X (binaryOp .Add) (aAK X.K):=op_add.or (op_catS.or (op_catT0.or aCg))
def aBs:P2 K (aAK K) eF:=P2.or aAT (P2.or aDt (P2.or ZZ aDq))
def eqS(neg:Bool):F2:=fun x y M=>match x,y with
 |.d (.str a),.d (.str b)=>Z (.d (.bool (if neg then !(a==b)else a==b)),M)
 |_,_=>Y
def eqX(neg:Bool):F2:=EZ (eqS neg) (eqD neg)
def aEx(K:Fg):R2:=fun x y H Q=>rEq x y H Q\/JG K false x y H Q
def aGw(K:Fg):R2:=fun x y H Q=>rNe x y H Q\/JG K true x y H Q
def ZT:decide (V.str a=V.str b)=(a==b):=by
 by_cases e:a=b
 .subst e;simp
 .have h:¬V.str a=V.str b:=fun q=>e (V.str.inj q);rw[E4 h,beq_eq_false_iff_ne.mpr e]
def aHc:P2 K rEq (eqS false):=by
 intro x y M z M' h W H v u Q G c d k;unfold eqS at h;split at h
 .rename_i a b;cases h;rw[show v=.str a from c,show u=.str b from d];refine⟨rfl,?_⟩;rw[ZT];exact k _ W H (.refl _) G rfl
 .cases h
def aEC:P2 K rNe (eqS true):=by
 intro x y M z M' h W H v u Q G c d k;unfold eqS at h;split at h
 .rename_i a b;cases h;rw[show v=.str a from c,show u=.str b from d];refine⟨rfl,?_⟩;rw[ZT];exact k _ W H (.refl _) G rfl
 .cases h
def VW:P2 K (aEx K) (eqX false):=P2.or aHc aDU
def VP:P2 K (aGw K) (eqX true):=P2.or aEC aDU
def aFG(a:X.A.units+64<cLine):OpR X (compareOp .Eq) (aEx X.K):=op_eq.or (aAk a)
def aEZ(a:X.A.units+64<cLine):OpR X (compareOp .NotEq) (aGw X.K):=op_ne.or (aAX a)
def aEM:P2 K (rI0 fun i j=>.int (i-j)) wH:=aAT
def aFC:P2 K (rI JV fun i j=>.int (i*j)) IG:=aCH fun _ _ h=>mulOk_of h
def aCG:P2 K (rI aEn fun i j=>.int (i / j)) lH:=aCH fun i j h=>by
 unfold zL at h;rw[B8]at h;exact⟨D9 h.1,D9 (p:=j.natAbs<AJ) h.2⟩
def aHv:P2 K (rI (fun _ j=>0<j) fun i j=>.int (i % j)) fT:=aCH fun i j h=>D9 h
def aEe:P2 K (rI0 fun i j=>.bl (decide (i<j))) ltI:=RC
def aJb:P2 K (rI0 fun i j=>.bl (decide (i<=j))) leI:=RC
def aIU:P2 K (rI0 fun i j=>.bl (decide (j<i))) gtI:=RC
def aHM:P2 K (rI0 fun i j=>.bl (decide (j<=i))) geI:=RC
def rX:F1:=fun x M=>match x with
 |.d (.int i)=>Z (.d (.int (-i)),M)
 |_=>Y
def aHe:P1 K (rU fun i=>.int (-i)) rX:=by
 intro x M z M' h W H v Q G r k;unfold rX at h;split at h
 .rename_i i;cases h;exact⟨i,r,k _ W H (.refl _) G rfl⟩
 .cases h
end
section
variable{X:Cx}{K:Fg}
def aJc(h:X.K=K):dM X (.builtin "isinstance") (aFH K):=by subst h;exact RQ
def aIv(h:X.K=K):dM X (.builtin "isinstance") (YZ K):=by subst h;exact NM
def aHD(K:Fg):R2:=rIx K
def kIx(h:X.K=K):IxR X (aHD K):=by subst h;exact aGV
def aGM:P2 K (aHD K) ixF:=aIS
def aDC(K:Fg):Tf->Hp->VK->Prop:=fun xs H Q=>∃p a,xs=[.ref p]/\(SqL K H p a\/SqT K H p a)/\Q (.int a.length) H
def aJf(h:X.K=K):dM X (.builtin "len") (aDC K):=by subst h;exact FA
def aBo:PN K (aDC K) bN:=aFX
def NO(K:Fg):Tf->Hp->VK->Prop:=fun xs H Q=>∃p a,xs=[.ref p]/\(SqL K H p a\/SqT K H p a)/\∀l,H l=Y->Q (.ref l) (upd H l (.lst a))
def aDH(h:X.K=K):dM X (.type "list") (NO K):=by subst h;exact HG
def YI:PN K (NO K) oI:=aCv
def RB(K:Fg):Tf->Hp->VK->Prop:=fun xs H Q=>∃p a,xs=[.ref p]/\((SqL K H p a/\∀l,H l=Y->Q (.ref l) (upd H l (.tup a)))\/(SqT K H p a/\Q (.ref p) H))
def aEV(h:X.K=K):dM X (.type "tuple") (RB K):=by subst h;exact BZ
def TU:PN K (RB K) cE:=aBn
def aEs(K:Fg):Tf->Hp->VK->Prop:=fun xs H Q=>∃(p:Ud)(bs:Tx Bool),xs=[.ref p]/\SqL K H p (bs.map V.bl)/\Q (.bl (bs.all id)) H
def aJg(h:X.K=K)(a:X.calm=true):dM X (.builtin "all") (aEs K):=by subst h;exact TX a
def aDh:PN K (aEs K) kT:=aEP
def aEm(K:Fg):Tf->Hp->VK->Prop:=fun xs H Q=>∃(p:Ud)(bs:Tx Bool),xs=[.ref p]/\SqL K H p (bs.map V.bl)/\Q (.bl (bs.any id)) H
def aJn(h:X.K=K)(a:X.calm=true):dM X (.builtin "any") (aEm K):=by subst h;exact TL a
def aCP:PN K (aEm K) anyF:=aGY
def kEq(h:X.K=K)(a:X.A.units+64<cLine):OpR X (compareOp .Eq) (aEx K):=by subst h;exact aFG a
def kNe(h:X.K=K)(a:X.A.units+64<cLine):OpR X (compareOp .NotEq) (aGw K):=by subst h;exact aEZ a
def kIn(h:X.K=K)(a:X.A.in1.units+64<cLine):OpR X (compareOp .In) (UJ K false):=by subst h;exact aFL a
def VA(h:X.K=K)(a:X.A.in1.units+64<cLine):OpR X (compareOp .NotIn) (UJ K true):=by subst h;exact SL a
def aJi(h:X.K=K):OpR X (binaryOp .Add) (aAK K):=by subst h;exact aDe
def QR(h:X.K=K)(a:PE X l tl):PI X tg l (aBv K tl):=by subst h;exact aGC a
def NS{n:Nat}(b:X.K=K)(c:X.calm=true)(h:PGs X es t)
 (hn:(assignEach es X.env).length=n:=by rfl) (a:(assignEach es X.env).findIdx? (·.1)=Y:=by rfl):PG X (.Tuple es k pos) (aDb K n t):=by subst b;exact aGE c h hn a
noncomputable def aIi(K:Fg)(a:TE):TT:=fun b H Q=>a b H fun x H'=>∃k,aDg K x H' k/\Q k H'
def aDc(d:X.K=K)(ha:PE X a c)(e:∀b,isTrue a X.env b=(do let v <- b;standAt a.pos;holding [v] (truthy v))):PT X a (aIi K c):=by subst d;exact YE ha e
def aCL(a:SE K b f):STt K (aIi K b) (LB f):=aFY a
end
section
variable{es:Ta}{env:Env}
def cK{a b}:starEach (.Name a b::es) env=(false,eval (.Name a b) env)::starEach es env:=rfl
def zO{a b c}:starEach (.Tuple a b c::es) env=(false,eval (.Tuple a b c) env)::starEach es env:=rfl
def rT{a b c d}:starEach (.Call a b c d::es) env=(false,eval (.Call a b c d) env)::starEach es env:=rfl
def wA:(backTo pos (starEach [] env)).any (·.1)=false:=rfl
def oS{e:Ue}(hs:starEach (e::es) env=(false,eval e env)::starEach es env)(h:(backTo pos (starEach es env)).any (·.1)=false):(backTo pos (starEach (e::es) env)).any (·.1)=false:=by
 rw[hs];have a:backTo pos ((false,eval e env)::starEach es env)=(false,(do let v <- eval e env;standAt pos;pure v:Sem Ua))::backTo pos (starEach es env)\/(backTo pos ((false,eval e env)::starEach es env)).any (·.1)=(backTo pos (starEach es env)).any (·.1):=.inr (by unfold backTo;simp);rcases a with q|q
 .rw[q,List.any_cons,h];rfl
 .rw[q];exact h
end
section
variable{P:Uf}{w:World}{K:Fg}{mg:Str->Ti}
def Fun.okM{base:Heap}{x:Str}{st:Stmt}{N ps:Te}{k:Nat}{b:SF}{f:Ud}{fd:FuncData}(F:Fun K x x st f fd)(S:bC N ps (aN st))
 (c:∀(f:Ud)(cdv:Ua)(A:Ug)(outer:Tx Env)(s:Uc)(H:Hp)(E:XK),eJ k (A.deeper (envOfC x (aN st) s.heap.objs.size f cdv))->
  ∃t,PSs (nZ CX0 P w K mg base N x (aN st) f cdv A outer s H E).nox (cS st) t/\SS K t b):mY P w K mg base CX0 (k+1) f fd ps (spM K (fnF ps.length N.length b)):=by
 have len:∀vs H Q E,spM K (fnF ps.length N.length b) vs H Q E->vs.length=ps.length:=fun vs H Q E h=>by
  obtain⟨xs,M,W,y,M',G,R,a,_⟩:=h;by_cases d:xs.length=ps.length
  .rw[<- Paired.len R];exact d
  .unfold fnF at a;rw[B2 d]at a;cases a
 refine F.ok S len fun cdv A outer s H vs Q E l h=>?_;obtain⟨t,m,hS⟩:=c f cdv A outer s H E l;refine⟨t,m,?_⟩;obtain⟨xs,M,W,y,M',G,R,a,k⟩:=h;by_cases d:xs.length=ps.length
 .unfold fnF at a;rw[A4 d]at a;obtain⟨⟨o,M1⟩,n,a⟩:=aM a
  have p:dA K W (xs.map Z++List.replicate (N.length-xs.length) Y) (start N vs):=by
   unfold start;rw[<- Paired.len R];exact Paired.app (bK.some R) (rD _)
  refine hS _ _ _ _ n W H _ _ G p fun e g i j=>?_;cases o with
  |rt x=>cases a;exact fun v r=>k v e g i j r
  |nx γ=>cases a;exact fun q r=>k .non e g i j rfl
  |bk γ=>cases a
  |ct γ=>cases a
 .unfold fnF at a;rw[B2 d]at a;cases a
def Def.okL{p:Str}{st:Stmt}{F:FN}(D:Def K mg x st)(S:bC N [p] (aN st))(c:F=fnF 1 N.length b)
 (d:∀(kV doc pm:Ua)(an:Tk)(cdv ct:Ua)(us:T7),us.length=[p].length->bindArgs (PySem.W.fnOf x x (gK st) (cS st) (aN st) .none kV doc pm an cdv ct) ⟨us,[]⟩=pure ([p].zip us))
 (a:∀(base:Heap)(f:Ud)(cdv:Ua)(A:Ug)(outer:Tx Env)(s:Uc)(H:Hp)(E:XK),eJ k (A.deeper (envOfC x (aN st) s.heap.objs.size f cdv))->
  ∃t,PSs (nZ CX0 P w K mg base N x (aN st) f cdv A outer s H E).nox (cS st) t/\SS K t b):
 ∃f fd,mg x=Z (.ref f)/\(∀(s:Uc)(u:Ua),BindsTo s fd ⟨[u],[]⟩ [(p,u)])/\∀base,mY P w K mg base CX0 (k+1) f fd [p] (spM K F):=by
 subst c;obtain⟨f,fd,Fu,m⟩:=D.ex;refine⟨f,fd,m,fun s u=>?_,fun base=>Fu.okM S (a base)⟩;obtain⟨oc,od,kV,doc,pm,an,cdv,ct,osl,rfl,lk,e⟩:=Fu.ex;exact .of_eq (d kV doc pm an cdv ct [u] rfl)
def uC{H:Hp}:∀ns:T9,aL K H (ns.map .int) (ns.map V.int)
 |[]=>rfl
 |n::ns=>⟨.int n,ns.map V.int,rfl,rfl,uC ns⟩
end
def aAt(e:Ue)(es:Ta):Prop:=∀env:Env,starEach (e::es) env=(false,eval e env)::starEach es env
def JH:Ta->Prop
 |[]=>True
 |e::es=>aAt e es/\JH es
def JH.plain:∀{es:Ta},JH es->∀(env:Env)(pos:Pos),(backTo pos (starEach es env)).any (·.1)=false
 |[]=>fun _ _ _=>rfl
 |_::_=>fun h env pos=>oS (h.1 env) (h.2.plain env pos)
section
variable{ι:Type}
structure ME(K:Fg)(X:ι->Cx)(e:Ue)(f:EF):Prop where
 ex:∃t,(∀i,PE (X i) e t)/\SE K t f
structure MT(K:Fg)(X:ι->Cx)(e:Ue)(f:TF):Prop where
 ex:∃t,(∀i,PT (X i) e t)/\STt K t f
structure MW(K:Fg)(X:ι->Cx)(e:Ue)(f:TF):Prop where
 ex:∃t,(∀i,PW (X i) e t)/\STt K t f
structure MA(K:Fg)(X:ι->Cx)(es:Ta)(f:AF):Prop where
 ex:∃t,(∀i,PA (X i) es t)/\SA K t f
 st:JH es
structure MG(K:Fg)(X:ι->Cx)(e:Ue)(f:GF):Prop where
 ex:∃t,(∀i,PG (X i) e t)/\SG K t f
structure MGs(K:Fg)(X:ι->Cx)(es:Ta)(f:GsF):Prop where
 ex:∃t,(∀i,PGs (X i) es t)/\SGs K t f
structure MI(K:Fg)(X:ι->Cx)(tg e:Ue)(f:AF):Prop where
 ex:∃t,(∀i,PI (X i) tg e t)/\SI K t f
structure MF(K:Fg)(X:ι->Cx)(es:Ta)(f:TF):Prop where
 ex:∃t,(∀i,vO (X i) es t)/\STt K t f
structure MS(K:Fg)(X:ι->Cx)(st:Stmt)(f:SF):Prop where
 ex:∃t,(∀i,PS (X i) st t)/\SS K t f
structure ML(K:Fg)(X:ι->Cx)(st:Tb)(f:SF):Prop where
 ex:∃t,(∀i,PSs (X i) st t)/\SS K t f
structure Q2(K:Fg)(X:ι->Cx)(o:Tq)(h:F2):Prop where
 ex:∃r,(∀i,OpR (X i) o r)/\P2 K r h
structure Q1(K:Fg)(X:ι->Cx)(o:Ua->Sem Ua)(h:F1):Prop where
 ex:∃r,(∀i,UnR (X i) o r)/\P1 K r h
structure QN(K:Fg)(X:ι->Cx)(f:Ua)(h:FN):Prop where
 ex:∃r,(∀i,dM (X i) f r)/\PN K r h
structure QI(K:Fg)(X:ι->Cx)(h:F2):Prop where
 ex:∃r,(∀i,IxR (X i) r)/\P2 K r h
structure QS(K:Fg)(X:ι->Cx)(h:F3):Prop where
 ex:∃r,(∀i,aGB (X i) r)/\P3 K r h
variable{K:Fg}{X:ι->Cx}{a b c e:Ue}{es:Ta}{f g h:EF}{ft gt:TF}{fa:AF}{pos:Pos}
def aC(i:Nat){x:Str}(k:∀j,(X j).N[i]?=Z x:=by intro _;rfl)(l:∀j,Vis (X j).env.scope x:=by intro _;first|exact Or.inl rfl|exact Or.inr (Or.inl rfl)|exact Or.inr (Or.inr rfl))(hd:(x==("__debug__":Str))=false:=by decide)(d:(x==("__classdict__":Str))=false:=by decide):
 ME K X (.Name x pos) (aB i):=⟨_,fun j=>aFJ (k j) (l j) hd d,aFt⟩
def aP:ME K X (.Constant (.int i) j pos) (fC (.int i)):=⟨_,fun _=>aHj,aES⟩
def fJ:ME K X (.Constant (.bool i) j pos) (fC (.bool i)):=⟨_,fun _=>aIm,aIX⟩
def YC:ME K X (.Constant .none j pos) (fC .none):=⟨_,fun _=>aGs,aEN⟩
def aGo:ME K X (.Constant (.str i) j pos) (fC (.str i)):=⟨_,fun _=>aGa,aFu⟩
def bP(q:Q2 K X (binaryOp op) k)(x:ME K X a f)(y:ME K X b g):ME K X (.BinOp a op b pos) (fOp k f g):=by
 obtain⟨r,d,j⟩:=q.ex;obtain⟨t,l,m⟩:=x.ex;obtain⟨u,n,o⟩:=y.ex;exact⟨_,fun i=>aHz (d i) (l i) (n i),OA j m o⟩
def QV(q:Q1 K X (unaryOp op) k)(x:ME K X a f):ME K X (.UnaryOp op a pos) (fUn k f):=by
 obtain⟨r,d,j⟩:=q.ex;obtain⟨t,l,m⟩:=x.ex;exact⟨_,fun i=>aIE (d i) (l i),aIg j m⟩
def eI{rest:Ta}(x:ME K X a f)(y:ME K X (.BoolOp .And (b::rest) pos) g):ME K X (.BoolOp .And (a::b::rest) pos) (eS f g):=by
 obtain⟨t,d,j⟩:=x.ex;obtain⟨u,k,l⟩:=y.ex;exact⟨_,fun i=>aEy (d i) (k i),aEJ j l⟩
def hZ(x:ME K X a f):ME K X (.BoolOp op [a] pos) f:=by
 obtain⟨t,d,j⟩:=x.ex;exact⟨_,fun i=>aFB (d i),j⟩
def MP(x:ME K X a f):ME K X (.UnaryOp .Not a pos) (GA f):=by
 obtain⟨t,d,j⟩:=x.ex;exact⟨_,fun i=>aGT (d i),aFZ j⟩
def iS(q:Q2 K X (compareOp op) k)(x:ME K X a f)(y:ME K X b g)(hm:behindInMarks op b=false:=by rfl):ME K X (.Compare a [op] [b] pos) (fOp k f g):=by
 obtain⟨r,d,j⟩:=q.ex;obtain⟨t,l,m⟩:=x.ex;obtain⟨u,n,o⟩:=y.ex;exact⟨_,fun i=>aDd (d i) (l i) (n i) hm,OA j m o⟩
def KG(q:Q2 K X (compareOp op) k)(n:Q2 K X (compareOp d) m)(x:ME K X a f)(y:ME K X b g)(z:ME K X c h)(hm:lastMarks [op,d] [b,c]=false:=by with_unfolding_all rfl):ME K X (.Compare a [op,d] [b,c] pos) (BB k m f g h):=by
 obtain⟨r,o,p⟩:=q.ex;obtain⟨E,j,l⟩:=n.ex;obtain⟨t,s,w⟩:=x.ex;obtain⟨u,A,B⟩:=y.ex;obtain⟨v,C,D⟩:=z.ex;exact⟨_,fun i=>ZV (o i) (j i) (s i) (A i) (C i) hm,aAj p l w B D⟩
def aG:MA K X [] aE:=⟨⟨_,fun _=>AA,aED⟩,trivial⟩
def aD(x:ME K X e f)(y:MA K X es fa)(hs:aAt e es:=by intro _;rfl):MA K X (e::es) (aA f fa):=by
 obtain⟨t,d,j⟩:=x.ex;obtain⟨u,k,l⟩:=y.ex;exact⟨⟨_,fun i=>kW (d i) (k i) (hs _),aCA j l⟩,hs,y.st⟩
def cH(x:MA K X es fa):ME K X (.Tuple es k pos) (cT fa):=by
 obtain⟨t,d,j⟩:=x.ex;exact⟨_,fun i=>WR (d i),aFU j⟩
def lE(x:MA K X es fa):ME K X (.List es pos) (hX fa):=by
 obtain⟨t,d,j⟩:=x.ex;exact⟨_,fun i=>aAJ (d i),aEA j⟩
def hW(x:MA K X es fa):ME K X (.List es pos) (dS fa):=by
 obtain⟨t,d,j⟩:=x.ex;exact⟨_,fun i=>aAJ (d i),aHd j⟩
def bU(q:QI K X k)(x:ME K X a f)(y:ME K X b g)(hs:PZ b:=by intro _ _;rfl):ME K X (.Subscript a b pos) (fOp k f g):=by
 obtain⟨r,d,j⟩:=q.ex;obtain⟨t,l,m⟩:=x.ex;obtain⟨u,n,o⟩:=y.ex;exact⟨_,fun i=>aHZ (d i) (l i) (n i) hs,OA j m o⟩
def bB{F:FN}(C:∀i,Callee (X i).prog (X i).w (X i).K (X i).mg (X i).base k x ps (spM K F) q)(d:∀i,eJ k (X i).A q)(y:MA K X (e::es) fa)(j:∀i,Gl (X i) x:=by intro _;rfl)(hd:(x==("__debug__":Str))=false:=by decide):
 ME K X (.Call (.Name x p) (e::es) [] pos) (aH F fa):=by
 obtain⟨u,l,m⟩:=y.ex;exact⟨_,fun i=>aHu (C i) (d i) (l i) (j i) hd (y.st.1 _) (y.st.2.plain _ _),aCX m⟩
def aS{id:String}{F:FN}(q:QN K X (.builtin id) F)(hm:∀i,(X i).mg x=Y)(d:bootBuiltins x=Z (.builtin id))(y:MA K X (e::es) fa)(j:∀i,Gl (X i) x:=by intro _;rfl)(hn:x≠"__name__":=by decide)(hd:(x==("__debug__":Str))=false:=by decide):
 ME K X (.Call (.Name x p) (e::es) [] pos) (aH F fa):=by
 obtain⟨r,k,l⟩:=q.ex;obtain⟨u,m,n⟩:=y.ex;exact⟨_,fun i=>vH (k i) (j i) (hm i) d (m i) hn hd (y.st.1 _) (y.st.2.plain _ _),aEj l n⟩
def cO{id:String}{F:FN}(q:QN K X (.type id) F)(hm:∀i,(X i).mg x=Y)(d:bootBuiltins x=Z (.type id))(y:MA K X (e::es) fa)(j:∀i,Gl (X i) x:=by intro _;rfl)(hn:x≠"__name__":=by decide)(hd:(x==("__debug__":Str))=false:=by decide):
 ME K X (.Call (.Name x p) (e::es) [] pos) (aH F fa):=by
 obtain⟨r,k,l⟩:=q.ex;obtain⟨u,m,n⟩:=y.ex;exact⟨_,fun i=>UI (k i) (j i) (hm i) d (m i) hn hd (y.st.1 _) (y.st.2.plain _ _),aEj l n⟩
def tF{T:String}{p:Pos}(l:∀i,(X i).K=K)(hT:T∈asked)(x:ME K X a f)(hs:aAt a [.Name y k])(hm:∀i,(X i).mg "isinstance"=Y)(d:∀i,(X i).mg y=Y)(m:bootBuiltins y=Z (.type T))(n:∀i,Gl (X i) "isinstance":=by intro _;rfl)(j:∀i,Gl (X i) y:=by intro _;rfl)
 (hn:y≠"__name__":=by decide) (hd:(y==("__debug__":Str))=false:=by decide):ME K X (.Call (.Name "isinstance" p) [a,.Name y k] [] pos) (wM T f):=by
 obtain⟨t,o,q⟩:=x.ex;refine⟨_,fun i=>vH (aJc (l i)) (n i) (hm i) boot_isinstance (kW (o i) (kW (yL (v:=.ty T) (j i) (d i) m rfl hn hd) AA cK) (hs _)) (by decide) (by decide) (hs _) (oS cK wA),aGd hT q⟩
def QU{T U:String}{p:Pos}{k:Nat}(u:∀i,(X i).K=K)(hT:T∈asked)(w:U∈asked)(x:ME K X a f)(hs:aAt a [.Tuple [.Name y s,.Name z d] k p3])(hm:∀i,(X i).mg "isinstance"=Y)(j:∀i,(X i).mg y=Y)(l:∀i,(X i).mg z=Y)
 (A:bootBuiltins y=Z (.type T)) (m:bootBuiltins z=Z (.type U)) (B:∀i,Gl (X i) "isinstance":=by intro _;rfl) (n:∀i,Gl (X i) y:=by intro _;rfl) (o:∀i,Gl (X i) z:=by intro _;rfl)
 (hn:y≠"__name__":=by decide) (hd:(y==("__debug__":Str))=false:=by decide) (q:z≠"__name__":=by decide) (r:(z==("__debug__":Str))=false:=by decide):ME K X (.Call (.Name "isinstance" p) [a,.Tuple [.Name y s,.Name z d] k p3] [] pos) (HV T U f):=by
 obtain⟨t,C,D⟩:=x.ex;refine⟨_,fun i=>vH (aIv (u i)) (B i) (hm i) boot_isinstance (kW (C i) (kW (WR (kW (yL (v:=.ty T) (n i) (j i) A rfl hn hd) (kW (yL (v:=.ty U) (o i) (l i) m rfl q r) AA cK) cK)) AA zO) (hs _)) (by decide) (by decide) (hs _) (oS zO wA),aCq hT w D⟩
def dE(x:MT K X a ft):MT K X (.UnaryOp .Not a pos) (cB ft):=by
 obtain⟨t,d,j⟩:=x.ex;exact⟨_,fun i=>aFi (d i),aGu j⟩
def vN{rest:Ta}(x:MT K X a ft)(y:MW K X (.BoolOp .And (b::rest) pos) gt):MW K X (.BoolOp .And (a::b::rest) pos) (jR ft gt):=by
 obtain⟨t,d,j⟩:=x.ex;obtain⟨u,k,l⟩:=y.ex;exact⟨_,fun i=>aFQ (d i) (k i),aHk j l⟩
def rV(x:MT K X a ft):MW K X (.BoolOp .And [a] pos) ft:=by
 obtain⟨t,d,j⟩:=x.ex;exact⟨_,fun i=>aCO (d i),j⟩
def jU{rest:Ta}(x:MT K X a ft)(y:MW K X (.BoolOp .Or (b::rest) pos) gt):MW K X (.BoolOp .Or (a::b::rest) pos) (gOr ft gt):=by
 obtain⟨t,d,j⟩:=x.ex;obtain⟨u,k,l⟩:=y.ex;exact⟨_,fun i=>aIo (d i) (k i),aHO j l⟩
def kG(x:MT K X a ft):MW K X (.BoolOp .Or [a] pos) ft:=by
 obtain⟨t,d,j⟩:=x.ex;exact⟨_,fun i=>aFT (d i),j⟩
def pY(x:MW K X a ft):MT K X a ft:=by
 obtain⟨t,d,j⟩:=x.ex;exact⟨_,fun i=>(d i).pt,j⟩
def bV(q:Q2 K X (compareOp op) k)(x:ME K X a f)(y:ME K X b g)(hm:behindInMarks op b=false:=by rfl):MT K X (.Compare a [op] [b] pos) (gB (fOp k f g)):=by
 obtain⟨r,d,j⟩:=q.ex;obtain⟨t,l,m⟩:=x.ex;obtain⟨u,n,o⟩:=y.ex;exact⟨_,fun i=>aCh (d i) (l i) (n i) hm,aBU (OA j m o)⟩
def cU(x:ME K X a f)(j:∀(env:Env)(d:Sem Ua),isTrue a env d=(do let v <- d;standAt a.pos;holding [v] (truthy v)):=by intro _ _;rfl):MT K X a (gB f):=by
 obtain⟨t,k,l⟩:=x.ex;exact⟨_,fun i=>aGL (k i) (j _),aHE l⟩
def aFs(j:∀i,(X i).K=K)(x:ME K X a f)(k:∀(env:Env)(d:Sem Ua),isTrue a env d=(do let v <- d;standAt a.pos;holding [v] (truthy v)):=by intro _ _;rfl):MT K X a (LB f):=by
 obtain⟨t,l,m⟩:=x.ex;exact⟨_,fun i=>aDc (j i) (l i) (k _),aCL m⟩
def lA{p:Pos}(hm:∀i,(X i).mg "range"=Y)(x:MA K X [a] fa)(d:∀i,Gl (X i) "range":=by intro _;rfl):MI K X tg (.Call (.Name "range" p) [a] [] pos) (fS fa):=by
 obtain⟨t,j,k⟩:=x.ex;exact⟨_,fun i=>UU (d i) (hm i) (j i) (x.st.1 _),aBH k⟩
def QG{p:Pos}(hm:∀i,(X i).mg "range"=Y)(x:MA K X [a,b] fa)(d:∀i,Gl (X i) "range":=by intro _;rfl):MI K X tg (.Call (.Name "range" p) [a,b] [] pos) (CT fa):=by
 obtain⟨t,j,k⟩:=x.ex;exact⟨_,fun i=>TB (d i) (hm i) (j i) (by rw[x.st.1,x.st.2.1];rfl) (by rw[x.st.2.1];rfl),aDl k⟩
def bQ(d:∀i,(X i).K=K)(x:ME K X a f):MI K X tg a (aY f):=by
 obtain⟨t,j,k⟩:=x.ex;exact⟨_,fun i=>QR (d i) (j i),aFq k⟩
def aR(i:Nat){x:Str}(d:∀j,(X j).N.Nodup)(hi:∀j,(X j).N[i]?=Z x:=by intro _;rfl)(k:∀j,Loc (X j).env.scope x:=by intro _;first|exact Or.inl rfl|exact Or.inr rfl)(l:∀j,(X j).fn x=true\/(X j).env.scope.names.lookup x=Z .local:=by intro _;first|exact .inl rfl|exact .inr rfl):
 MG K X (.Name x pos) (hName i):=⟨_,fun j=>aDx (d j) (hi j) (k j) (l j),uW⟩
def gZ:MGs K X [] gW:=⟨_,fun _=>aDa,aCR⟩
def bX(x:MG K X e d)(y:MGs K X es gs)(hs:∀env:Env,(assignEach (e::es) env).map (·.2)=assign e env::(assignEach es env).map (·.2):=by intro _;rfl):MGs K X (e::es) (bI d gs):=by
 obtain⟨t,j,k⟩:=x.ex;obtain⟨u,l,m⟩:=y.ex;exact⟨_,fun i=>aAV (j i) (l i) (hs _),XJ k m⟩
def oR{n:Nat}(j:∀i,(X i).K=K)(l:∀i,(X i).calm=true)(x:MGs K X es gs)(hn:∀env:Env,(assignEach es env).length=n:=by intro _;rfl)(d:∀env:Env,(assignEach es env).findIdx? (·.1)=Y:=by intro _;rfl):MG K X (.Tuple es k pos) (kE n gs):=by
 obtain⟨t,m,o⟩:=x.ex;exact⟨_,fun i=>NS (j i) (l i) (m i) (hn _) (d _),XA o⟩
def YK(q:QS K X s)(x:ME K X a f)(y:ME K X b g) (hs:∀(env:Env)(v:Ua),assign (.Subscript a b pos) env v=(do
 let d <- holding [v] (eval a env);let j <- holding [v,d] (eval b env)
 standAt pos
 holding [v,d,j] (setItem d j v)
 release [v,d,j] []):=by intro _ _;rfl):MG K X (.Subscript a b pos) (hSub f g s):=by
 obtain⟨r,k,l⟩:=q.ex;obtain⟨t,m,n⟩:=x.ex;obtain⟨u,o,p⟩:=y.ex;exact⟨_,fun i=>aEw (m i) (o i) (k i) (hs _),aGj l n p⟩
def cM:MF K X [] cF:=⟨_,fun _=>aAB,aGr⟩
def BG(x:MT K X c ft):MF K X [c] ft:=by
 obtain⟨t,d,j⟩:=x.ex;exact⟨_,fun i=>aBb (d i),j⟩
abbrev LcI(ι:Type):Type:=ι×Ud×Uc×Hp×Td×T2
def eM(X:ι->Cx)(N':Te)(scope:Scope):LcI ι->Cx:=fun j=>cQ (X j.1) N' scope j.2.1 j.2.2.1 j.2.2.2.1 j.2.2.2.2.1 j.2.2.2.2.2
variable{N':Te}{cap:T5}{scope:Scope}{tg iter elt:Ue}{ifs:Ta}{gf:GF}
def gN(d:∀i,(X i).calm=true)(S:∀i,nJ (X i) N' cap scope)(x:MI K X tg iter fa)(y:MG K (eM X N' scope) tg gf)(z:MF K (eM X N' scope) ifs ft)(w:ME K (eM X N' scope) elt f)(hs:∀(env:Env)(x:Ua),foldedSetIterable iter env x=pure x:=by intro _ _;rfl):
 ME K X (.ListComp elt [⟨tg,iter,ifs,0⟩] scope pos) (fLc cap fa gf ft f):=by
 obtain⟨t,j,k⟩:=x.ex;obtain⟨u,l,m⟩:=y.ex;obtain⟨v,n,p⟩:=z.ex;obtain⟨o,q,r⟩:=w.ex;exact⟨_,fun i=>YH (d i) (S i) (j i) (fun C s H fp pn=>l (i,C,s,H,fp,pn)) (fun C s H fp pn=>n (i,C,s,H,fp,pn)) (fun C s H fp pn=>q (i,C,s,H,fp,pn)) (hs _),aDE k m p r⟩
def aGQ(d:∀i,(X i).calm=true)(S:∀i,nJ (X i) N' cap scope)(x:MI K X tg iter fa)(y:MG K (eM X N' scope) tg gf)(z:MF K (eM X N' scope) ifs ft)(w:ME K (eM X N' scope) elt f)(hs:∀(env:Env)(x:Ua),foldedSetIterable iter env x=pure x:=by intro _ _;rfl):
 ME K X (.ListComp elt [⟨tg,iter,ifs,0⟩] scope pos) (EJ cap fa gf ft f):=by
 obtain⟨t,j,k⟩:=x.ex;obtain⟨u,l,m⟩:=y.ex;obtain⟨v,n,p⟩:=z.ex;obtain⟨o,q,r⟩:=w.ex;exact⟨_,fun i=>YH (d i) (S i) (j i) (fun C s H fp pn=>l (i,C,s,H,fp,pn)) (fun C s H fp pn=>n (i,C,s,H,fp,pn)) (fun C s H fp pn=>q (i,C,s,H,fp,pn)) (hs _),aAm k m p r⟩
def uY(i:Nat){l:Str}{d:Pos}(p:∀j,(X j).N.Nodup)(q:∀i,(X i).calm=true)(S:∀i,nJ (X i) N' cap scope)(x:MI K X tg iter fa)(y:MG K (eM X N' scope) tg gf)(z:MF K (eM X N' scope) ifs ft)(w:ME K (eM X N' scope) elt f)
 (m:∀j,(X j).N[i]?=Z l:=by intro _;rfl) (n:∀j,swapsWith (.ListComp elt [⟨tg,iter,ifs,0⟩] scope pos) (Z (.Name l k)) d.line (X j).env=pure true:=by intro _;rfl) (r:∀j,(X j).env.scope.names.lookup l=Z .local:=by intro _;rfl) (hs:∀(env:Env)(x:Ua),foldedSetIterable iter env x=pure x:=by intro _ _;rfl):
 MS K X (.Assign [.Name l k] (.ListComp elt [⟨tg,iter,ifs,0⟩] scope pos) d) (bD (fLc cap fa gf ft f) (hName i)):=by
 obtain⟨t,A,B⟩:=x.ex;obtain⟨u,D,E⟩:=y.ex;obtain⟨v,G,I⟩:=z.ex;obtain⟨o,J,L⟩:=w.ex;exact⟨_,fun j=>HW (p j) (m j) (q j) (S j) (A j) (fun C s H fp pn=>D (j,C,s,H,fp,pn)) (fun C s H fp pn=>G (j,C,s,H,fp,pn)) (fun C s H fp pn=>J (j,C,s,H,fp,pn)) (n j) (r j) (hs _),AL (aDE B E I L) uW⟩
def vU(i:Nat){l:Str}{d:Pos}(p:∀j,(X j).N.Nodup)(q:∀i,(X i).calm=true)(S:∀i,nJ (X i) N' cap scope)(x:MI K X tg iter fa)(y:MG K (eM X N' scope) tg gf)(z:MF K (eM X N' scope) ifs ft)(w:ME K (eM X N' scope) elt f)
 (m:∀j,(X j).N[i]?=Z l:=by intro _;rfl) (n:∀j,swapsWith (.ListComp elt [⟨tg,iter,ifs,0⟩] scope pos) (Z (.Name l k)) d.line (X j).env=pure true:=by intro _;rfl) (r:∀j,(X j).env.scope.names.lookup l=Z .local:=by intro _;rfl) (hs:∀(env:Env)(x:Ua),foldedSetIterable iter env x=pure x:=by intro _ _;rfl):
 MS K X (.Assign [.Name l k] (.ListComp elt [⟨tg,iter,ifs,0⟩] scope pos) d) (bD (EJ cap fa gf ft f) (hName i)):=by
 obtain⟨t,A,B⟩:=x.ex;obtain⟨u,D,E⟩:=y.ex;obtain⟨v,G,I⟩:=z.ex;obtain⟨o,J,L⟩:=w.ex;exact⟨_,fun j=>HW (p j) (m j) (q j) (S j) (A j) (fun C s H fp pn=>D (j,C,s,H,fp,pn)) (fun C s H fp pn=>G (j,C,s,H,fp,pn)) (fun C s H fp pn=>J (j,C,s,H,fp,pn)) (n j) (r j) (hs _),AL (aAm B E I L) uW⟩
variable{st:Stmt}{sts:Tb}{sf sg:SF}
def bZ:ML K X [] bR:=⟨_,fun _=>aBN,aBt⟩
def aQ(x:MS K X st sf):ML K X [st] sf:=by
 obtain⟨t,d,j⟩:=x.ex;exact⟨_,fun i=>OC (d i),j⟩
def aO(x:MS K X st sf)(y:ML K X sts sg):ML K X (st::sts) (aZ sf sg):=by
 obtain⟨t,d,j⟩:=x.ex;obtain⟨u,k,l⟩:=y.ex;exact⟨_,fun i=>HX (d i) (k i),aGN j l⟩
def bE(x:ME K X e f):MS K X (.Return (Z e) pos) (cD f):=by
 obtain⟨t,d,j⟩:=x.ex;exact⟨_,fun i=>aFm (d i),aEB j⟩
def gG(x:ME K X e f)(hs:∀i,swapsWith e Y pos.line (X i).env=pure false:=by intro _;rfl):MS K X (.Expr e pos) (eZ f):=by
 obtain⟨t,d,j⟩:=x.ex;exact⟨_,fun i=>QA (d i) (hs i),aBF j⟩
def cX(x:MT K X c ft)(y:ML K X sts sf)(z:ML K X d sg):MS K X (.If c sts d pos) (sIf ft sf sg):=by
 obtain⟨t,j,k⟩:=x.ex;obtain⟨u,l,m⟩:=y.ex;obtain⟨v,n,o⟩:=z.ex;exact⟨_,fun i=>aEt (j i) (l i) (n i),aHK k m o⟩
def dX(d:∀i,PassesOwn (model (X i).prog (X i).w) (X i).A (X i).env (X i).xe)(j:∀i,(X i).calm=true)(x:MI K X tg iter fa)(y:MG K X tg gf)(z:ML K X sts sf)(hs:∀(env:Env)(x:Ua),foldedSetIterable iter env x=pure x:=by intro _ _;rfl):MS K X (.For tg iter sts [] pos) (gV fa gf sf):=by
 obtain⟨t,k,l⟩:=x.ex;obtain⟨u,m,n⟩:=y.ex;obtain⟨v,o,p⟩:=z.ex;exact⟨_,fun i=>aGc (d i) (j i) (k i) (m i) (o i) (hs _),aHp l n p⟩
def bG(i:Nat){k:Str}(l:∀j,(X j).N.Nodup)(x:ME K X e f)(hi:∀j,(X j).N[i]?=Z k:=by intro _;rfl)(m:∀j,Loc (X j).env.scope k:=by intro _;first|exact Or.inl rfl|exact Or.inr rfl)(hs:∀j,swapsWith e (Z (.Name k d)) pos.line (X j).env=pure false:=by intro _;rfl)
 (n:∀j,(X j).fn k=true\/(X j).env.scope.names.lookup k=Z .local:=by intro _;first|exact .inl rfl|exact .inr rfl):MS K X (.Assign [.Name k d] e pos) (bD f (hName i)):=by
 obtain⟨t,o,p⟩:=x.ex;exact⟨_,fun j=>aHf (l j) (hi j) (m j) (o j) (hs j) (n j),AL p uW⟩
def zF(x:ME K X e f)(y:MG K X tg gf)(d:∀k,swapsWithSole [tg] e pos.line (X k).env=pure false:=by intro _;rfl)(i:∀k,swappedStores [tg] e (X k).env=pure Y:=by intro _;rfl)(j:∀env:Env,(assignEach [tg] env).map (·.2)=[assign tg env]:=by intro _;rfl):MS K X (.Assign [tg] e pos) (bD f gf):=by
 obtain⟨t,l,m⟩:=x.ex;obtain⟨u,n,o⟩:=y.ex;exact⟨_,fun k=>aFR (l k) (n k) (d k) (i k) (j _),AL m o⟩
def iD(d:∀i,(X i).K=K:=by intro _;rfl):Q2 K X (binaryOp .Add) eF:=⟨_,fun i=>aJi (d i),aBs⟩
def OJ:Q2 K X (binaryOp .Sub) wH:=⟨_,fun _=>aEG,aEM⟩
def KB:Q2 K X (binaryOp .Mult) IG:=⟨_,fun _=>aCJ,aFC⟩
def FR:Q2 K X (binaryOp .FloorDiv) lH:=⟨_,fun _=>aAx,aCG⟩
def kP:Q2 K X (binaryOp .Mod) fT:=⟨_,fun _=>aEW,aHv⟩
def OV:Q1 K X (unaryOp .USub) rX:=⟨_,fun _=>aFD,aHe⟩
def JJ:Q2 K X (compareOp .Lt) ltI:=⟨_,fun _=>op_lt,aEe⟩
def aHr:Q2 K X (compareOp .LtE) leI:=⟨_,fun _=>aHB,aJb⟩
def xZ:Q2 K X (compareOp .Gt) gtI:=⟨_,fun _=>aHX,aIU⟩
def aIH:Q2 K X (compareOp .GtE) geI:=⟨_,fun _=>aIf,aHM⟩
def HB(d:∀i,(X i).K=K)(j:∀i,(X i).A.units+64<cLine):Q2 K X (compareOp .Eq) (eqX false):=⟨_,fun i=>kEq (d i) (j i),VW⟩
def EL(d:∀i,(X i).K=K)(j:∀i,(X i).A.units+64<cLine):Q2 K X (compareOp .NotEq) (eqX true):=⟨_,fun i=>kNe (d i) (j i),VP⟩
def aHJ(d:∀i,(X i).K=K)(j:∀i,(X i).A.in1.units+64<cLine):Q2 K X (compareOp .In) (inD false):=⟨_,fun i=>kIn (d i) (j i),aDF⟩
def FJ(d:∀i,(X i).K=K)(j:∀i,(X i).A.in1.units+64<cLine):Q2 K X (compareOp .NotIn) (inD true):=⟨_,fun i=>VA (d i) (j i),aDF⟩
def dF(d:∀i,(X i).K=K:=by intro _;rfl):QI K X ixF:=⟨_,fun i=>kIx (d i),aGM⟩
def dG(d:∀i,(X i).K=K:=by intro _;rfl):QN K X (.builtin "len") bN:=⟨_,fun i=>aJf (d i),aBo⟩
def AK(d:∀i,(X i).K=K):QN K X (.type "list") oI:=⟨_,fun i=>aDH (d i),YI⟩
def gH(d:∀i,(X i).K=K):QN K X (.type "tuple") cE:=⟨_,fun i=>aEV (d i),TU⟩
def vJ(d:∀i,(X i).K=K)(j:∀i,(X i).calm=true):QN K X (.builtin "all") kT:=⟨_,fun i=>aJg (d i) (j i),aDh⟩
def ZN(d:∀i,(X i).K=K)(j:∀i,(X i).calm=true):QN K X (.builtin "any") anyF:=⟨_,fun i=>aJn (d i) (j i),aCP⟩
def aDG:QS K X EY:=⟨_,fun _=>set_list,aGA⟩
end
section
variable{P:Uf}{w:World}{K:Fg}{mg:Str->Ti}
def Def.okG{st:Stmt}{ps:Te}{b:SF}{q:Bool}(D:Def K mg x st)(S:bC N ps (aN st))
 (c:∀(kV doc pm:Ua)(an:Tk)(cdv ct:Ua)(us:T7),us.length=ps.length->bindArgs (PySem.W.fnOf x x (gK st) (cS st) (aN st) .none kV doc pm an cdv ct) ⟨us,[]⟩=pure (ps.zip us))
 (a:∀(f:Ud)(cdv:Ua)(A:Ug)(outer:Tx Env)(s:Uc)(H:Hp)(E:XK),eJ k (A.deeper (envOfC x (aN st) s.heap.objs.size f cdv)) q->
  ML K (fun _:Unit=>(nZ CX0 P w K mg base N x (aN st) f cdv A outer s H E q).nox) (cS st) b):Callee P w K mg base (k+1) x ps (spM K (fnF ps.length N.length b)) q:=
 D.okM S c fun f cdv A outer s H E d=>by
  obtain⟨t,e,g⟩:=(a f cdv A outer s H E d).ex;exact⟨t,e (),g⟩
def Def.okLG{p:Str}{st:Stmt}{F:FN}(D:Def K mg x st)(S:bC N [p] (aN st))(c:F=fnF 1 N.length b)
 (d:∀(kV doc pm:Ua)(an:Tk)(cdv ct:Ua)(us:T7),us.length=[p].length->bindArgs (PySem.W.fnOf x x (gK st) (cS st) (aN st) .none kV doc pm an cdv ct) ⟨us,[]⟩=pure ([p].zip us))
 (a:∀(base:Heap)(f:Ud)(cdv:Ua)(A:Ug)(outer:Tx Env)(s:Uc)(H:Hp)(E:XK),eJ k (A.deeper (envOfC x (aN st) s.heap.objs.size f cdv))->
  ML K (fun _:Unit=>(nZ CX0 P w K mg base N x (aN st) f cdv A outer s H E).nox) (cS st) b):
 ∃f fd,mg x=Z (.ref f)/\(∀(s:Uc)(u:Ua),BindsTo s fd ⟨[u],[]⟩ [(p,u)])/\∀base,mY P w K mg base CX0 (k+1) f fd [p] (spM K F):=
 D.okL S c d fun base f cdv A outer s H E e=>by
  obtain⟨t,g,h⟩:=(a base f cdv A outer s H E e).ex;exact⟨t,g (),h⟩
end
end L2
namespace HT
open PySem PyProof.Rows PySem.Spec
section
variable{prog:Uf}{w:World}{A:Ug}{E:T1}{s:Uc}
def getItem_tuple_whole{lo:To}{Q:T1}(ht:IsTup s.heap t a)(hs:s.heap.IsSliceOf sl f g .none)(j:IsPart f lo)(k:IsPart g hi)
 (i:sIx a.size 0 lo=0/\sIx a.size a.size hi=a.size) (h:Q (.ref t) s):wpAny (model prog w) A (getItem (.ref t) (.ref sl)) Q E s:=by
 obtain⟨os,c,d,hds⟩:=id hs;have e:s.TypeIs (.ref sl) "slice":=⟨os,c,d⟩;unfold getItem
 try with_reducible refine S5 ?_
 first|refine A1 (B5 ?_)|skip
 refine A1 (wpAny_sequenceKey ht.typeIs (by decide) ?_)
 refine A1 (U1 (name:=Str.ofString "__getitem__") ht.typeIs O9
  (U7 O9 ht.typeIs entry_tuple_getitem ?_ (args_tuple_getitem _ _)))
 show wpAny _ _ (Builtin.Tuple.tupleItemsOf (.ref t) >>= _) _ _ s;refine A1 (tupleItemsOf_ ht ?_);refine A1 (A1p e ?_);rw[A4 (by decide)];refine A1 (oE hs j k ?_)
 have b:(((sIx a.size 0 lo:Nat):Int)==0&&(1:Int)==1&&(sIx a.size a.size hi-sIx a.size 0 lo)==a.size)=true:=by
  rw[i.1,i.2];simp
 show wpAny _ _ (if (((sIx a.size 0 lo:Nat):Int)==0&&(1:Int)==1&&(sIx a.size a.size hi-sIx a.size 0 lo)==a.size)=true then _ else _) _ _ s;rw[A4 b];refine A1 (m:=Builtin.Tuple.tupleIsExact (.ref t)) ?_;unfold Builtin.Tuple.tupleIsExact;refine A1 (A1p ht.typeIs (B5 ?_));rw[A4 (by decide)];exact A1 (wpAny_rule (B5 ⟨_,rfl,B5 h⟩))
end
end HT
namespace L2
variable{K:Fg}{H:Hp}{W:Wd}{apos cpos:Pos}
open PySem PySem.Spec PyProof.Rows
def aIK(K:Fg):V->To->To->Hp->VK->Prop:=fun x lo hi H Q=>∃a xs,x=.ref a/\SqT K H a xs/\(HT.sIx xs.length 0 lo=0/\HT.sIx xs.length xs.length hi=xs.length)/\Q (.ref a) H
def XT:SlR X (aIK X.K):=by
 intro pins s j H x v k l lo hi sl Q I d hs e f h;obtain⟨a,xs,rfl,g,i,q⟩:=h;cases d;obtain⟨c,r,ht,m⟩:=I.tuple g;have b:c.toArray.size=xs.length:=by rw[C5];exact r.length.symm
 refine⟨"tuple",_,PyProof.Rows.slot_tuple_getitem.lookup,ht.typeIs,?_⟩;exact HT.getItem_tuple_whole ht hs e f (by rw[b];exact i) ⟨.ref a,H,I,rfl,q⟩
def fU{a:Type}(xs:Tx a)(lo hi:To):Tx a:=(xs.drop (HT.sIx xs.length 0 lo)).take (HT.sIx xs.length xs.length hi-HT.sIx xs.length 0 lo)
abbrev OF:=Ga->Sto->Tz (To×Sto)
def bT:OF:=fun _ M=>Z (Y,M)
def asI:CD->To
 |.d (.int i)=>Z i
 |_=>Y
def bY(f:EF):OF:=fun a M=>(f a M).bind fun r=>(asI r.1).bind fun i=>Z (Z i,r.2)
def slF(x:CD)(lo hi:To)(M:Sto):Tz (CD×Sto):=match x with
 |.d (.list ds)=>Z (.d (.list (fU ds lo hi)),M)
 |.d (.tuple ds)=>Z (.d (.tuple (fU ds lo hi)),M)
 |.c i=>match M[i]? with
  |some (.lst xs)=>(iU (fU xs lo hi)).bind fun ds=>Z (.d (.list ds),M)
  |_=>Y
 |_=>Y
def fSl(f:EF)(l u:OF):EF:=fun a M=>(f a M).bind fun r=>(l a r.2).bind fun p=>(u a p.2).bind fun q=>slF r.1 p.1 q.1 q.2
def aGp(K:Fg):V->To->To->Hp->VK->Prop:=fun x lo hi H Q=>aHY K x lo hi H Q\/aIw K x lo hi H Q\/aIK K x lo hi H Q
def kSl{X:Cx}(h:X.K=K):SlR X (aGp K):=by subst h;exact sl_list.or (sl_tup.or XT)
section
variable{K:Fg}
def SO(K:Fg)(t:TO)(f:OF):Prop:=∀a M b M',f a M=Z (b,M')->∀(W:Wd)(H:Hp)(c:St)(Q:To->Hp->Prop),Good K W M H->dA K W a c->(∀W' H',W.Ext W'->Good K W' M' H'->Q b H')->t c H Q
def aCn:SO K QZ bT:=by
 intro b M x M' a W H c Q G R k;cases a;exact k W H (.refl _) G
def aHq{i:Int}(h:asI x=Z i):x=.d (.int i):=by
 cases x with
 |c n=>cases h
 |t n=>cases h
 |f n=>cases h
 |g _=>cases h
 |d x=>cases x<;>first|cases h;rfl|cases h
def aBC{c:TE}{f:EF}(a:SE K c f):SO K (aDR c) (bY f):=by
 intro p M x M' b W H d Q G R k;obtain⟨⟨y,M1⟩,e,b⟩:=aM b;obtain⟨i,g,b⟩:=aM b;cases b;refine a _ _ _ _ e W H d _ G R fun v h j l m n=>?_;have o:y=_:=aHq g;subst o;exact⟨i,n,k h j l m⟩
def aL.drop{H:Hp}:∀{ds:T6}{vs:Tf}(n:Nat),aL K H ds vs->aL K H (ds.drop n) (vs.drop n)
 |_,_,0=>fun h=>h
 |[],vs,n+1=>fun h=>by rw[show vs=[]from h];rfl
 |d::ds,vs,n+1=>fun h=>by
  obtain⟨v,r,rfl,_,a⟩:=h;exact aL.drop n a
def aL.take{H:Hp}:∀{ds:T6}{vs:Tf}(n:Nat),aL K H ds vs->aL K H (ds.take n) (vs.take n)
 |_,_,0=>fun h=>rfl
 |[],vs,n+1=>fun h=>by rw[show vs=[]from h];rfl
 |d::ds,vs,n+1=>fun h=>by
  obtain⟨v,r,rfl,a,b⟩:=h;exact⟨v,r.take n,rfl,a,aL.take n b⟩
def aL.cut(h:aL K H ds vs)(lo hi:To):aL K H (fU ds lo hi) (vS vs lo hi):=by
 unfold fU vS;rw[h.length];exact(h.drop _).take _
def zJ{a b:Type}{R:a->b->Prop}:∀{xs:Tx a}{ys:Tx b}(n:Nat),Paired R xs ys->Paired R (xs.drop n) (ys.drop n)
 |_,_,0,h=>h
 |_,_,_+1,.nil=>.nil
 |_,_,n+1,.cons _ t=>zJ n t
def sZ{a b:Type}{R:a->b->Prop}:∀{xs:Tx a}{ys:Tx b}(n:Nat),Paired R xs ys->Paired R (xs.take n) (ys.take n)
 |_,_,0,h=>.nil
 |_,_,_+1,.nil=>.nil
 |_,_,n+1,.cons r t=>.cons r (sZ n t)
def UP{xs:T8}{vs:Tf}(h:bK K W xs vs)(lo hi:To):bK K W (fU xs lo hi) (vS vs lo hi):=by
 unfold fU vS;rw[Paired.len h];exact sZ _ (zJ _ h)
def XI{x:CD}{lo hi:To}{M:Sto}{z:CD}{M':Sto}(h:slF x lo hi M=Z (z,M')){v:V}{Q:VK}(G:Good K W M H)(m:dI K W x v)(k:∀w W' H',W.Ext W'->Good K W' M' H'->dI K W' z w->Q w H'):aGp K v lo hi H Q:=by
 unfold slF at h;split at h
 .rename_i ds;cases h;obtain⟨p,us,rfl,d,b⟩:=(show ∃a us,_=V.ref a/\SqL K W.F a us/\aL K W.F ds us from m);refine .inl ⟨p,us,rfl,G.fh.seq d,fun l f=>?_⟩;obtain⟨c,g⟩:=G.lay (o:=.lst (vS us lo hi)) f;exact k _ _ _ c g ⟨l,_,rfl,SqL.of bA,aL.same c.ff _ _ (b.cut lo hi)⟩
 .rename_i ds;cases h;obtain⟨p,us,rfl,d,b⟩:=(show ∃a us,_=V.ref a/\SqT K W.F a us/\aL K W.F ds us from m);by_cases j:HT.sIx us.length 0 lo=0/\HT.sIx us.length us.length hi=us.length
  .refine .inr (.inr ⟨p,us,rfl,G.fh.seqT d,j,?_⟩)
   have e:fU ds lo hi=ds:=by
    unfold fU;rw[b.length,j.1,j.2,<- b.length];simp
   rw[e]at k;exact k _ W H (.refl _) G ⟨p,us,rfl,d,b⟩
  .refine .inr (.inl ⟨p,us,rfl,G.fh.seqT d,j,fun l f=>?_⟩);obtain⟨c,g⟩:=G.lay (o:=.tup (vS us lo hi)) f;exact k _ _ _ c g ⟨l,_,rfl,SqT.of bA,aL.same c.ff _ _ (b.cut lo hi)⟩
 .rename_i i;split at h
  .rename_i xs n;obtain⟨ds,q,h⟩:=aM h;cases h;obtain⟨us,r,b⟩:=G.lstAt n;rw[m.2];refine .inl ⟨_,us,rfl,SqL.of r,fun l f=>?_⟩;obtain⟨c,g⟩:=G.lay (o:=.lst (vS us lo hi)) f;exact k _ _ _ c g ⟨l,_,rfl,SqL.of bA,aL.same c.ff _ _ (dZ q (UP b lo hi))⟩
  .cases h
 .cases h
def aIc{i:TE}{f:EF}{tl th:TO}{l u:OF}(a:SE K i f)(b:SO K tl l)(c:SO K th u):SE K (tSl (aGp K) i tl th) (fSl f l u):=by
 intro N M x M' d W H e Q G R k;obtain⟨⟨y,M1⟩,m,d⟩:=aM d;obtain⟨⟨p,M2⟩,n,d⟩:=aM d;obtain⟨⟨q,O⟩,o,d⟩:=aM d;refine a _ _ _ _ m W H e _ G R fun v r s g t z=>?_;refine b _ _ _ _ n r s e _ t (R.up g) fun A B h C=>?_;refine c _ _ _ _ o A B e _ C (R.up (g.trans h)) fun P S j D=>?_;exact XI d D (z.up (h.trans j)) fun w E F I J L=>k w E F (((g.trans h).trans j).trans I) J L
def intF:FN:=fun xs M=>match xs with
 |[.d (.int i)]=>Z (.d (.int i),M)
 |[.d (.bool b)]=>Z (.d (.int (if b then 1 else 0)),M)
 |_=>Y
noncomputable def tyB(T:String)(M:Sto):CD->Bool
 |.d (.list _)=>T=="list"
 |.d (.str _)=>T=="str"
 |.c i=>match M[i]? with
  |some (.lst _)=>T=="list"
  |some (.dk _)=>T=="dict"
  |some (.dt _)=>T=="dict"
  |_=>false
 |_=>false
def UZ(h:tyB T M x=true)(G:Good K W M H)(r:dI K W x v):tyV K T v H:=by
 unfold tyB at h;split at h
 .rename_i ds;obtain⟨p,us,rfl,e,f⟩:=(show ∃a us,_=V.ref a/\SqL K W.F a us/\aL K W.F ds us from r);exact .inl ⟨eq_of_beq h,us,G.fh.seq e⟩
 .rename_i x;rw[show v=.str x from r];exact eq_of_beq h
 .rename_i i;rw[r.2];split at h
  .rename_i xs b;obtain⟨us,g,f⟩:=G.lstAt b;exact .inl ⟨eq_of_beq h,us,SqL.of g⟩
  .rename_i kvs b;obtain⟨_,o,c,d⟩:=G.cs i _ b (by intro z;cases z);cases o with
   |dK us=>exact .inr (.inr (.inl ⟨eq_of_beq h,.inl ⟨us,c⟩⟩))
   |_=>exact False.elim d
  .rename_i kvs b;obtain⟨_,o,c,d⟩:=G.cs i _ b (by intro z;cases z);cases o with
   |dT us=>exact .inr (.inr (.inl ⟨eq_of_beq h,.inr ⟨us,c⟩⟩))
   |_=>exact False.elim d
  .cases h
 .cases h
abbrev FM:=CD->T8->Sto->Tz (CD×Sto)
def bL(T:String)(h:FM)(f:EF)(fa:AF):EF:=fun a M=>(f a M).bind fun r=>if tyB T r.2 r.1=true then(fa a r.2).bind fun q=>h r.1 q.1 q.2 else Y
def PM(K:Fg)(r:V->Tf->Hp->VK->Prop)(f:FM):Prop:=∀x xs M z M',f x xs M=Z (z,M')->∀(W:Wd)(H:Hp)(v:V)(vs:Tf)(Q:VK),Good K W M H->dI K W x v->bK K W xs vs->(∀w W' H',W.Ext W'->Good K W' M' H'->dI K W' z w->Q w H')->r v vs H Q
def QK{T:String}{r:V->Tf->Hp->VK->Prop}{h:FM}{d:TE}{f:EF}{e:TA}{fa:AF}(p:PM K r h)(a:SE K d f)(b:SA K e fa):SE K (tBM K T r d e) (bL T h f fa):=by
 intro g M x M' c W H i Q G R k;obtain⟨⟨y,M1⟩,o,c⟩:=aM c;by_cases hT:tyB T M1 y=true
 .have c:(if tyB T M1 y=true then(fa g M1).bind fun q=>h y q.1 q.2 else Y)=Z (x,M'):=c;rw[A4 hT]at c;obtain⟨⟨L,M2⟩,s,c⟩:=aM c;refine a _ _ _ _ o W H i _ G R fun v t u j l m=>⟨UZ hT l m,?_⟩;refine b _ _ _ _ s t u i _ l (R.up j) fun vs z A n B C=>?_;exact p _ _ _ _ _ c z A v vs Q B (m.up n) C fun w D E F I J=>k w D E ((j.trans n).trans F) I J
 .have c:(if tyB T M1 y=true then(fa g M1).bind fun q=>h y q.1 q.2 else Y)=Z (x,M'):=c;rw[B2 hT]at c;cases c
def JX{T:String}{r:V->Tf->Hp->VK->Prop}{h:FM}{c:TE}{f:EF}(p:PM K r h)(a:SE K c f):SE K (aIz K T r c) (bL T h f aE):=by
 intro u M x M' b W H g Q G R k;obtain⟨⟨y,M1⟩,i,b⟩:=aM b;have b:(if tyB T M1 y=true then h y [] M1 else Y)=Z (x,M'):=b;by_cases hT:tyB T M1 y=true
 .rw[A4 hT]at b;refine a _ _ _ _ i W H g _ G R fun v j l m d e=>⟨UZ hT d e,?_⟩;exact p _ _ _ _ _ b j l v [] Q d e .nil fun w n o q s t=>k w n o (m.trans q) s t
 .rw[B2 hT]at b;cases b
def bW:FM:=fun x a M=>match x,a with
 |.c i,[y]=>match M[i]? with
  |some (.lst xs)=>if xs.length<sizeLine then Z (.d .none,M.set i (.lst (xs++[y])))else Y
  |_=>Y
 |_,_=>Y
def RV:PM K PX bW:=by
 intro x g M z M' h W H v vs Q G d rs k;unfold bW at h;split at h
 .rename_i i y;split at h
  .rename_i xs b;by_cases a:xs.length<sizeLine
   .rw[A4 a]at h;cases h;obtain⟨us,e,c⟩:=G.lstAt b;rcases rs with _|⟨f,_|_⟩;refine⟨W.α i,us,_,d.2,rfl,e,by rw[<- Paired.len c];exact a,?_⟩;exact k _ W _ (.refl _) (G.set b (by intro q;cases q) (c':=.lst (xs++[y])) (show bK K W _ _ from Paired.app c (.cons f .nil))) rfl
   .rw[B2 a]at h;cases h
  .cases h
 .cases h
def iI:FM:=fun x a M=>match x,a with
 |.c i,[]=>match M[i]? with
  |some (.lst xs)=>(xs[xs.length-1]?).bind fun y=>Z (y,M.set i (.lst xs.dropLast))
  |_=>Y
 |_,_=>Y
def AS{a b:Type}{R:a->b->Prop}{xs:Tx a}{ys:Tx b}(h:Paired R xs ys):Paired R xs.dropLast ys.dropLast:=by
 rw[List.dropLast_eq_take,List.dropLast_eq_take,Paired.len h];exact sZ _ h
def aGW:PM K aIp iI:=by
 intro x j M z M' h W H v vs Q G c rs k;unfold iI at h;split at h
 .rename_i i;split at h
  .rename_i xs b;obtain⟨y,d,h⟩:=aM h;cases h;obtain⟨us,e,a⟩:=G.lstAt b;obtain⟨u,f,g⟩:=Paired.get a d;cases rs;refine⟨W.α i,us,u,c.2,rfl,e,by rw[<- Paired.len a];exact f,?_⟩;exact k _ W _ (.refl _) (G.set b (by intro q;cases q) (c':=.lst xs.dropLast) (show bK K W _ _ from AS a)) g
  .cases h
 .cases h
end
section
variable{ι:Type}{K:Fg}{X:ι->Cx}{a b c e o:Ue}{es:Ta}{f g h:EF}{fa:AF}{pos:Pos}
structure MO(K:Fg)(X:ι->Cx)(e:Tz Ue)(f:OF):Prop where
 ex:∃t,(∀i,PO (X i) e t)/\SO K t f
def kR:MO K X Y bT:=⟨_,fun _=>aCr,aCn⟩
def eR(x:ME K X e f):MO K X (Z e) (bY f):=by
 obtain⟨t,d,j⟩:=x.ex;exact⟨_,fun i=>aCN (d i),aBC j⟩
def pS{lo:Tz Ue}(d:∀i,(X i).K=K)(x:ME K X a f)(y:MO K X lo l)(z:MO K X hi u):ME K X (.Subscript a (.Slice lo hi Y p2) pos) (fSl f l u):=by
 obtain⟨t,j,k⟩:=x.ex;obtain⟨s,m,n⟩:=y.ex;obtain⟨p,q,r⟩:=z.ex;exact⟨_,fun i=>YY (kSl (d i)) (j i) (m i) (q i),aIc k n r⟩
def fM(d:∀i,(X i).K=K)(x:ME K X o f)(y:MA K X [e] fa)(j:∀env:Env,attributeBase o "append" env (eval o env)=eval o env:=by intro _;rfl)(k:(apos.endLine==cpos.line)=true:=by rfl):
 ME K X (.Call (.Attribute o "append" apos) [e] [] cpos) (bL "list" bW f fa):=by
 obtain⟨t,l,m⟩:=x.ex;obtain⟨u,n,p⟩:=y.ex;refine⟨_,fun i=>?_,QK RV m p⟩;have:=aEp A0s F.slot_list_append F.type_list_append TZ (l i) (n i) (apos:=apos) (cpos:=cpos) (j _) (by rw[y.st.1];rfl) k (y.st.1 _) (y.st.2.plain _ _);rw[d i]at this;exact this
def tE(d:∀i,(X i).K=K)(x:ME K X o f)(j:∀env:Env,attributeBase o "pop" env (eval o env)=eval o env:=by intro _;rfl)(k:(apos.endLine==cpos.line)=true:=by rfl):
 ME K X (.Call (.Attribute o "pop" apos) [] [] cpos) (bL "list" iI f aE):=by
 obtain⟨t,l,m⟩:=x.ex;refine⟨_,fun i=>?_,JX aGW m⟩;have:=XG A0s F.slot_list_pop F.type_list_pop aFK (l i) (apos:=apos) (cpos:=cpos) (j _) k;rw[d i]at this;exact this
end
def Def.okNone{P:Uf}{st:Stmt}{ps:Te}{k:Nat}(D:Def K mg x st)(S:bC N ps (aN st))
 (b:∀(kV doc pm:Ua)(an:Tk)(cdv ct:Ua)(us:T7),us.length=ps.length->bindArgs (PySem.W.fnOf x x (gK st) (cS st) (aN st) .none kV doc pm an cdv ct) ⟨us,[]⟩=pure (ps.zip us)):
 Callee P w K mg base (k+1) x ps (spM K fun _ _=>Y):=by
 refine D.ok S b (fun vs H Q E h=>?_) fun f cdv A outer s H vs Q E c h=>?_
 .obtain⟨xs,M,W,y,M',G,R,a,_⟩:=h;cases a
 .obtain⟨xs,M,W,y,M',G,R,a,_⟩:=h;cases a
def FE:EF:=fun _ M=>Z (.d (.dict []),M)
def XN:SE K aAe FE:=by
 intro e M x M' a W H f Q G R k;cases a;intro p b;obtain⟨c,d⟩:=G.lay (o:=.dK []) b;exact k _ _ _ c d ⟨p,[],rfl,bA,rfl⟩
def keyOf:CD->Tz Key
 |.d (.int i)=>Z (.inl i)
 |.d (.str x)=>Z (.inr x)
 |_=>Y
section
variable{ι:Type}{K:Fg}{X:ι->Cx}
def aAF{pos:Pos}:ME K X (.Dict [] [] pos) FE:=⟨_,fun _=>XR,XN⟩
end
section
variable{K:Fg}
def DF{a b:Type}{R:a->b->Prop}:∀{xs:Tx a}{ys:Tx b},Paired R xs ys->Paired R xs.reverse ys.reverse
 |_,_,.nil=>.nil
 |_,_,.cons h t=>by
  rw[U8,U8];exact Paired.app (DF t) (.cons h .nil)
def fI:FM:=fun x a M=>match x,a with
 |.c i,[]=>match M[i]? with
  |some (.lst xs)=>Z (.d .none,M.set i (.lst xs.reverse))
  |_=>Y
 |_,_=>Y
def MR:PM K KR fI:=by
 intro x e M z M' h W H v vs Q G b rs k;unfold fI at h;split at h
 .rename_i i;split at h
  .rename_i xs a;cases h;obtain⟨us,c,d⟩:=G.lstAt a;cases rs;refine⟨W.α i,us,b.2,rfl,c,?_⟩;exact k _ W _ (.refl _) (G.set a (by intro q;cases q) (c':=.lst xs.reverse) (show bK K W _ _ from DF d)) rfl
  .cases h
 .cases h
end
section
variable{ι:Type}{K:Fg}{X:ι->Cx}{a b c e o:Ue}{es:Ta}{f g h:EF}{fa:AF}{pos:Pos}
def zH(d:∀i,(X i).K=K)(x:ME K X o f)(j:∀env:Env,attributeBase o "reverse" env (eval o env)=eval o env:=by intro _;rfl)(k:(apos.endLine==cpos.line)=true:=by rfl):
 ME K X (.Call (.Attribute o "reverse" apos) [] [] cpos) (bL "list" fI f aE):=by
 obtain⟨t,l,m⟩:=x.ex;refine⟨_,fun i=>?_,JX MR m⟩;have:=XG A0s F.slot_list_reverse F.type_list_reverse LW (l i) (apos:=apos) (cpos:=cpos) (j _) k;rw[d i]at this;exact this
end
open PySem PySem.W PyProof.Rows
def KS{b:Type}(lt:Tt)(n:Nat):KasT b->(b->Prop)->Prop
 |.ret a,Q=>Q a
 |.ask i j k,Q=>i<n/\j<n/\KS lt n (k (lt i j)) Q
def KS.bind{b c:Type}{lt:Tt}{n:Nat}{f:b->KasT c}{Q:c->Prop}:∀{t:KasT b},KS lt n t (fun a=>KS lt n (f a) Q)->KS lt n (t.bind f) Q
 |.ret _=>fun h=>h
 |.ask _ _ _=>fun h=>⟨h.1,h.2.1,KS.bind h.2.2⟩
def KS.mono{b:Type}{Q R:b->Prop}(m:∀a,Q a->R a):∀{t:KasT b},KS lt n t Q->KS lt n t R
 |.ret _=>fun h=>m _ h
 |.ask _ _ _=>fun h=>⟨h.1,h.2.1,KS.mono m h.2.2⟩
def KS.wp{c:Type}{lt:Tt}{n:Nat}{Q:c->Prop}{R:c->Uc->Prop}{b:Nat->Nat->(Bool->Uc->Prop)->Uc->Prop}
 (d:∀i j C,i<n->j<n->C (lt i j) s->b i j C s) (m:∀a,Q a->R a s):∀{t:KasT c},KS lt n t Q->KasT.kasWp b t R s
 |.ret _=>fun h=>m _ h
 |.ask _ _ _=>fun h=>d _ _ _ h.1 h.2.1 (KS.wp d m h.2.2)
section
variable{lt:Tt}{n:Nat}
structure tX(lt:Tt):Prop where
 as:∀a b,lt a b=true->lt b a=false
 tr:∀a b c,lt b a=false->lt c b=false->lt c a=false
def tX.up(o:tX lt)(h:lt c a=true)(h':lt b a=false):lt c b=true:=by
 cases e:lt c b with
 |true=>rfl
 |false=>rw[o.tr _ _ _ h' e]at h;cases h
def Inv2(n:Nat)(p:Tn):Prop:=p.Perm (List.range n).toArray
def Inv2.sz(h:Inv2 n p):p.size=n:=by
 have:=(Array.perm_iff_toList_perm.mp h).length_eq;simpa using this
def Inv2.ent(h:Inv2 n p)(b:0<n)(k:Nat):p.getD k 0<n:=by
 rw[J9];cases e:p[k]? with
 |none=>exact b
 |some x=>
  have hm:x∈p:=Array.mem_of_getElem? e;have:=(h.mem_iff (a:=x)).mp hm;simpa using this
def iN(lt:Tt)(p:Tn)(n:Nat):Prop:=∀i j,i<j->j<n->lt (p.getD j 0) (p.getD i 0)=false
def uF(lt:Tt)(p:Tn)(n:Nat):Prop:=∀i j,i<j->j<n->lt (p.getD i 0) (p.getD j 0)=false
def aAg(lt:Tt)(p:Tn)(n q:Nat):Prop:=∀i j,n<=i+q+1->i<j->j<n->lt (p.getD j 0) (p.getD i 0)=false
def iN.ext(o:tX lt)(h:iN lt p m)(d:1<=m)(b:lt (p.getD m 0) (p.getD (m-1) 0)=false):iN lt p (m+1):=by
 intro i j a f;by_cases e:j=m
 .subst e;by_cases c:i=j-1
  .subst c;exact b
  .exact o.tr _ _ _ (h i (j-1) (by omega) (by omega)) b
 .exact h i j a (by omega)
def uF.ext(o:tX lt)(h:uF lt p m)(d:1<=m)(b:lt (p.getD (m-1) 0) (p.getD m 0)=false):uF lt p (m+1):=by
 intro i j a f;by_cases e:j=m
 .subst e;by_cases c:i=j-1
  .subst c;exact b
  .exact o.tr _ _ _ b (h i (j-1) (by omega) (by omega))
 .exact h i j a (by omega)
def NF(o:tX lt)(g:Inv2 n p)(i:0<n){Q:Nat->Prop}:∀(f m:Nat),1<=m->iN lt p m->(∀r,m<=r->r<=m+f->iN lt p r->(r<m+f->lt (p.getD r 0) (p.getD (r-1) 0)=true)->Q r)->KS lt n (kas_asc p f m) Q
 |0=>fun m j hs k=>by
  rw[kas_asc.eq_def];exact k m (B4 _) (B4 _) hs (fun h=>absurd h (L8 _))
 |f+1=>fun m j hs k=>by
  rw[kas_asc.eq_def];refine⟨g.ent i _,g.ent i _,?_⟩;cases e:lt (p.getD m 0) (p.getD (m-1) 0)with
  |true=>exact k m (B4 _) (by omega) hs (fun _=>e)
  |false=>exact NF o g i f (m+1) (by omega) (hs.ext o j e) fun r a b c d=>k r (by omega) (by omega) c (fun z=>d (by omega))
def gX(a:Inv2 n p)(i j:Nat):Inv2 n (kas_rev p i j):=(mirror_perm p i j _).trans a
def rL{p:Tn}{j:Nat}(a:j<=p.size)(k:Nat):(kas_rev p i j).getD k 0=if i<=k/\k<j then p.getD (i+j-1-k) 0 else p.getD k 0:=by
 rw[J9,show(kas_rev p i j)[k]?=_ from getElem?_mirror_all a k];by_cases e:i<=k/\k<j
 .rw[A4 e,A4 e,J9]
 .rw[B2 e,B2 e,J9]
def KP(o:tX lt){p:Tn}{lo hi m:Nat}(hm:m<=p.size)(g:hi<=m)(d:uF lt p m)(e:∀i j,lo<=i->i<j->j<hi->lt (p.getD j 0) (p.getD i 0)=false):uF lt (kas_rev p lo hi) m:=by
 intro i j c f;rw[rL (by omega),rL (by omega)];by_cases a:lo<=i/\i<hi
 .rw[A4 a];by_cases b:lo<=j/\j<hi
  .rw[A4 b];exact e _ _ (by omega) (by omega) (by omega)
  .rw[B2 b];exact d _ _ (by omega) f
 .rw[B2 a];by_cases b:lo<=j/\j<hi
  .rw[A4 b];exact d _ _ (by omega) (by omega)
  .rw[B2 b];exact d _ _ c f
def yO(o:tX lt)(t:0<n){Q:Tn×Nat×Nat->Prop}:∀(f:Nat)(p:Tn)(m q:Nat),Inv2 n p->1<=m->m+f<=n->uF lt p m->aAg lt p m q->q+1<=m->
 (∀h l s,Inv2 n h->m<=l->l<=m+f->uF lt h l->aAg lt h l s->s+1<=l->Q (h,l,s))->KS lt n (kas_desc f p m q) Q
 |0=>fun p m q r x A hd u y k=>by
  rw[kas_desc.eq_def];exact k p m q r (B4 _) (B4 _) hd u y
 |f+1=>fun p m q r x A hd u y k=>by
  rw[kas_desc.eq_def];refine⟨r.ent t _,r.ent t _,?_⟩;have B:=r.sz;have z:∀h:Tn,aAg lt h (m+1) 0:=fun h i j a b c=>by omega
  cases c:lt (p.getD m 0) (p.getD (m-1) 0)with
  |true=>
   have v:=hd.ext o x (o.as _ _ c);dsimp only;rw[A4 rfl];by_cases w:q > 0
   .rw[A4 w];exact yO o t f _ (m+1) 0 (gX r _ _) (by omega) (by omega) (KP o (by omega) (by omega) v (fun i j a b d=>u i j (by omega) b (by omega))) (z _) (by omega) fun h l s a b c' d e g=>k h l s a (by omega) (by omega) d e g
   .rw[B2 w];exact yO o t f _ (m+1) 0 r (by omega) (by omega) v (z _) (by omega) fun h l s a b c' d e g=>k h l s a (by omega) (by omega) d e g
  |false=>
   dsimp only;rw[B2 A7];refine⟨r.ent t _,r.ent t _,?_⟩;cases d:lt (p.getD (m-1) 0) (p.getD m 0)with
   |true=>
    dsimp only;rw[A4 rfl];exact k p m q r (B4 _) (by omega) hd u y
   |false=>
    dsimp only;rw[B2 A7];refine yO o t f p (m+1) (q+1) r (by omega) (by omega) (hd.ext o x d) ?_ (by omega) fun h l s a b c' d e g=>k h l s a (by omega) (by omega) d e g;intro i j a b e;by_cases C:j=m
    .subst C;by_cases D:i=j-1
     .subst D;exact c
     .exact o.tr _ _ _ (u i (j-1) (by omega) (by omega) (by omega)) c
    .exact u i j (by omega) b (by omega)
def Part(lt:Tt)(n:Nat)(r:Nat×Tn):Prop:=Inv2 n r.2/\1<=r.1/\r.1<=n/\iN lt r.2 r.1
def IB(o:tX lt)(e:0<n){p:Tn}{m:Nat}(d:Inv2 n p)(f:1<=m)(k:m<=n)(hd:uF lt p m):KS lt n (kas_tail3 m n p) (Part lt n):=by
 have g:=d.sz;rw[kas_tail3.eq_def];refine KS.bind (NF o (gX d 0 m) e _ _ f ?_ fun r a b c _=>⟨gX d 0 m,by omega,by omega,c⟩);intro i j h l;rw[rL (by omega),rL (by omega),A4 (by omega),A4 (by omega)];exact hd _ _ (by omega) (by omega)
def xN(o:tX lt)(h:0<n){p:Tn}{m:Nat}(r:Inv2 n p)(t:m+1<=n)(hd:uF lt p (m+1)):KS lt n (kas_descPart m n p) (Part lt n):=by
 rw[kas_descPart.eq_def];refine KS.bind (yO o h _ _ _ _ r (by omega) (by omega) hd (fun i j a b c=>by omega) (by omega) fun l f k a b c d e g=>?_);have s:=a.sz;show KS lt n (if k > 0 then kas_tail3 f n (kas_rev l (f-(k+1)) f)else kas_tail3 f n l) _;by_cases q:k > 0
 .rw[A4 q];exact IB o h (gX a _ _) (by omega) (by omega) (KP o (by omega) (B4 _) d fun i j x y z=>e i j (by omega) y z)
 .rw[B2 q];exact IB o h a (by omega) (by omega) d
def YF(o:tX lt)(h:0<n){p:Tn}(f:Inv2 n p):KS lt n (kas_count n p) (Part lt n):=by
 have u:=f.sz;rw[kas_count.eq_def];refine KS.bind (NF o f h _ _ (B4 _) (fun i j a b=>by omega) fun r a b c d=>?_);by_cases e:(r==n)=true
 .rw[A4 e];exact⟨f,a,by omega,c⟩
 .rw[B2 e];have A:r≠n:=by simpa using e
  have t:=d (by omega);by_cases g:r > 1
  .rw[A4 g];refine⟨f.ent h _,f.ent h _,?_⟩;cases l:lt (p.getD 0 0) (p.getD (r-1) 0)with
   |true=>dsimp only;rw[A4 rfl];exact⟨f,a,by omega,c⟩
   |false=>
    dsimp only;rw[B2 A7];have le:∀i j,i<=j->j<r->i<j\/i=j:=fun i j x y=>by omega
    have k:∀x,lt x x=false:=fun x=>by
     cases q:lt x x with
     |false=>rfl
     |true=>rw[o.as _ _ q]at q;cases q
    have up:∀i,i<r->lt (p.getD i 0) (p.getD (r-1) 0)=false:=fun i hi=>by
     have v:lt (p.getD i 0) (p.getD 0 0)=false:=by
      by_cases z:i=0
      .subst z;exact k _
      .exact c 0 i (by omega) hi
     exact o.tr _ _ _ l v
    have w:∀i,i<r->lt (p.getD (r-1) 0) (p.getD i 0)=false:=fun i hi=>by
     by_cases z:i=r-1
     .subst z;exact k _
     .exact c i (r-1) (by omega) (by omega)
    have al:∀i j,i<r->j<r->lt (p.getD i 0) (p.getD j 0)=false:=fun i j hi m=>o.tr _ _ _ (w j m) (up i hi);refine xN o h (gX f _ _) (by omega) ?_;intro i j s m;rw[rL (by omega),rL (by omega),A4 (by omega)];by_cases z:j<r
    .rw[A4 (by omega)];exact al _ _ (by omega) (by omega)
    .rw[B2 (by omega)];have:j=r:=by omega
     subst this;exact o.tr _ _ _ (o.as _ _ t) (up _ (by omega))
  .rw[B2 g];have:r=1:=by omega
   subst this;refine xN o h f (by omega) ?_;intro i j s m;have:i=0:=by omega
   have:j=1:=by omega
   subst i;subst j;exact o.as _ _ t
def zV(o:tX lt)(d:0<n)(e:Inv2 n p)(hs:iN lt p k){Q:Nat->Prop}(q:∀l,l<=k->(∀i,i<l->lt (p.getD k 0) (p.getD i 0)=false)->(∀i,l<=i->i<k->lt (p.getD k 0) (p.getD i 0)=true)->Q l):
 ∀(f l r:Nat),l<=r->r<=k->r-l<=f->(∀i,i<l->lt (p.getD k 0) (p.getD i 0)=false)->(∀i,r<=i->i<k->lt (p.getD k 0) (p.getD i 0)=true)->KS lt n (kas_place p k f l r) Q
 |0=>fun l r j h m a b=>by
  rw[kas_place.eq_def];have:l=r:=by omega
  subst this;exact q l h a b
 |f+1=>fun l r j h m a b=>by
  rw[kas_place.eq_def];show KS lt n (if l>=r then _ else _) Q;by_cases g:l>=r
  .rw[A4 g];have:l=r:=by omega
   subst this;exact q l h a b
  .rw[B2 g];refine⟨e.ent d _,e.ent d _,?_⟩;cases c:lt (p.getD k 0) (p.getD ((l+r) / 2) 0)with
   |true=>
    dsimp only;rw[A4 rfl];refine zV o d e hs q f _ _ (by omega) (by omega) (by omega) a fun i x y=>?_;by_cases z:i=(l+r) / 2
    .subst z;exact c
    .exact o.up c (hs _ _ (by omega) y)
   |false=>
    dsimp only;rw[B2 A7];refine zV o d e hs q f _ _ (by omega) (by omega) (by omega) (fun i x=>?_) b;by_cases z:i=(l+r) / 2
    .subst z;exact c
    .exact o.tr _ _ _ (hs i ((l+r) / 2) (by omega) (by omega)) c
def NY{p:Tn}{a d:Nat}(h:a<p.size)(hd:d<=a)(k:Nat):(bubble p a d).getD k 0=if k=a-d then p.getD a 0 else if a-d<k/\k<=a then p.getD (k-1) 0 else p.getD k 0:=by
 rw[J9,getElem?_bubble h d hd k];by_cases e:k=a-d
 .rw[A4 e,A4 e,J9]
 .rw[B2 e,B2 e];by_cases b:a-d<k/\k<=a
  .rw[A4 b,A4 b,J9]
  .rw[B2 b,B2 b,J9]
def WL(o:tX lt)(g:0<n){Q:Tn->Prop}(q:∀p,Inv2 n p->iN lt p n->Q p):∀(f:Nat)(p:Tn)(k:Nat),Inv2 n p->k+f=n->iN lt p k->KS lt n (kas_bin f p k) Q
 |0=>fun p k c r hs=>by
  rw[kas_bin.eq_def];have:k=n:=by omega
  subst this;exact q p c hs
 |f+1=>fun p k c r hs=>by
  rw[kas_bin.eq_def];have s:=c.sz;refine KS.bind (zV o g c hs (fun l t a b=>?_) k 0 k (by omega) (by omega) (by omega) (fun i x=>by omega) (fun i x y=>by omega));refine WL o g q f _ (k+1) ((bubble_perm p k (k-l)).trans c) (by omega) ?_;intro i j d u;rw[NY (by omega) (by omega),NY (by omega) (by omega)];have e:k-(k-l)=l:=by omega
  rw[e];by_cases h:j=l
  .rw[A4 h,B2 (by omega),B2 (by omega)];exact a i (by omega)
  .rw[B2 h];by_cases m:l<j/\j<=k
   .rw[A4 m];by_cases i1:i=l
    .rw[A4 i1];exact o.as _ _ (b _ (by omega) (by omega))
    .rw[B2 i1];by_cases i2:l<i/\i<=k
     .rw[A4 i2];exact hs _ _ (by omega) (by omega)
     .rw[B2 i2];exact hs _ _ (by omega) (by omega)
   .rw[B2 m,B2 (by omega),B2 (by omega)];exact hs _ _ d (by omega)
def aCf(o:tX lt)(f:0<n):KS lt n (kas_sort n) (fun p=>Inv2 n p/\iN lt p n):=by
 unfold kas_sort;refine KS.bind (KS.mono (fun r h=>?_) (YF o f (p:=(List.range n).toArray) (Array.Perm.refl _)));obtain⟨a,b,c,d⟩:=h;by_cases e:r.fst<n
 .rw[A4 e];have hm:max r.fst 1=r.fst:=by omega
  rw[hm];exact WL o f (fun p x y=>⟨x,y⟩) _ _ _ a (by omega) d
 .rw[B2 e];have:r.fst=n:=by omega
  exact⟨a,this▸d⟩
end
end L2
namespace L2
open PySem PySem.Spec PyProof.Rows
def cN:T6->Tz (T9)
 |[]=>Z []
 |.int n::r=>(cN r).bind fun ns=>Z (n::ns)
 |_=>Y
def oD:∀{ds:T6}{us:T7}{as:Td}{ns:T9},ReadsAll h us ds as->cN ds=Z ns->IntsAre us ns
 |[],_,_,_=>fun r e=>by cases r;cases e;exact .nil
 |d::ds,_,_,_=>fun r e=>by
  cases r with
  |cons a b=>
   cases d with
   |int n=>
    have e:(cN ds).bind (fun ns=>Z (n::ns))=Z _:=e;obtain⟨ms,c,f⟩:=Option.bind_eq_some_iff.mp e;cases f;cases a;exact .cons _ _ (oD b c)
   |_=>cases e
def fE:Ub->Ub->Tz Bool
 |.int a,.int b=>Z (decide (a<b))
 |.tuple xs,.tuple c=>(cN xs).bind fun ns=>(cN c).bind fun ms=>Z (HT.lexLt ns ms)
 |_,_=>Y
def dU:T6->T6->Tz Bool
 |[],a=>Z (decide (0<a.length))
 |_::_,[]=>Z false
 |x::xs,y::a=>if PyData.eqv x y=true then dU xs a else fE x y
noncomputable def isI:Ub->Bool
 |.int _=>true
 |_=>false
section
variable{prog:Uf}{w:World}{A:Ug}{E:T1}{s:Uc}
def aDn{c d:Bool}{Q:Bool->Uc->Prop}(g:A.units<cLine)(e:Reads s.heap p x as)(f:Reads s.heap q y bs)(h:fE x y=Z c)(i:d=true->isI x=true/\isI y=true)(k:Q c s):
 wpAny (model prog w) A (oneLt' d p q) Q E s:=by
 unfold fE at h;split at h
 .rename_i a b;cases e;cases f;cases h;cases d with
  |true=>exact oneLt_int k
  |false=>exact W.kat_one _ _ (lt_int k)
 .rename_i xs C;obtain⟨ns,j,h⟩:=Option.bind_eq_some_iff.mp h;obtain⟨ms,l,h⟩:=Option.bind_eq_some_iff.mp h;cases h;cases d with
  |true=>exact absurd (i rfl).1 (by intro z;cases z)
  |false=>
   cases e with
   |tuple m n o r=>
    cases f with
    |tuple t u v B=>
     exact W.kat_one _ _ (HT.lt_tupInts ⟨_,m,n,_,o⟩ ⟨_,t,u,_,v⟩ (oD r j) (oD B l) g k)
 .cases h
def OT{b d:Bool}{Q:Bool->Uc->Prop}(l:A.units+64<cLine)(k:Q c s):∀(xs ys:T6)(us ws:T7)(as bs:Td)(i:Nat),ReadsAll s.heap us xs as->ReadsAll s.heap ws ys bs->xs.all SeqAt.shaped=true->ys.all SeqAt.shaped=true->
 dU xs ys=Z c->d=decide (us.length<ws.length)->((b&&i==0)=true->xs.head?.all isI=true/\ys.head?.all isI=true)->W.KatLex prog w A b d Q (us.zip ws) i s
 |[],ys=>fun us ws as bs i g f s1 s2 h a j=>by
  cases g
  have o:ws.length=ys.length:=by
   clear k h a j s2
   induction f using ReadsAll.rec (motive_1:=fun _ _ _ _=>True)with
   |nil=>rfl
   |cons _ _ _ ih=>simp[ih]
   |_=>trivial
  rw[List.zip_nil_left];refine W.kat_nil ?_;have h:Z (decide (0<ys.length))=Z c:=h;cases h;rw[a,o];exact k
 |x::xs,[]=>fun us ws as bs i g f s1 s2 h a j=>by
  cases f;rw[List.zip_nil_right];refine W.kat_nil ?_;cases h;rw[a];simpa using k
 |x::xs,y::ys=>fun us ws as bs i g f s1 s2 h a j=>by
  cases g with
  |cons m p=>
   cases f with
   |cons n q=>
    rw[A1b,B8]at s1 s2;rw[A0r];refine W.kat_cons ?_;refine SeqAt.eqAt_reads x y A s _ _ _ _ m n (U4 s1.1) (U4 s2.1) (SeqAt.room_of_shaped s1.1 l) _ _ _ _ ?_;have h:(if PyData.eqv x y=true then dU xs ys else fE x y)=Z c:=h;cases e:PyData.eqv x y with
    |true=>
     rw[e,A4 rfl]at h;refine W.kat_yes (OT l k xs ys _ _ _ _ (i+1) p q s1.2 s2.2 h ?_ (fun z=>?_))
     .rw[a];simp
     .simp at z
    |false=>
     rw[e,B2 A7]at h;refine W.kat_no (aDn (by omega) m n h (fun z=>?_) k);have:=j z;simpa using this
end
open PySem PySem.W PyProof.Rows
noncomputable def UD{b:Type}(lt:Tt):KasT b->b
 |.ret a=>a
 |.ask i j k=>UD lt (k (lt i j))
def KA{c:Type}(n:Nat):KasT c->(c->Prop)->Prop
 |.ret a,Q=>Q a
 |.ask i j k,Q=>i<n/\j<n/\∀b,KA n (k b) Q
section
variable{n:Nat}
def KA.bind{c d:Type}{f:c->KasT d}{Q:d->Prop}:∀{t:KasT c},KA n t (fun a=>KA n (f a) Q)->KA n (t.bind f) Q
 |.ret _=>fun h=>h
 |.ask _ _ _=>fun h=>⟨h.1,h.2.1,fun b=>KA.bind (h.2.2 b)⟩
def KA.ks{b:Type}{lt:Tt}{Q:b->Prop}:∀{t:KasT b},KA n t Q->KS lt n t (fun a=>a=UD lt t/\Q a)
 |.ret _=>fun h=>⟨rfl,h⟩
 |.ask i j _=>fun h=>⟨h.1,h.2.1,KA.ks (h.2.2 (lt i j))⟩
def KS.run{a:Type}{lt:Tt}{Q:a->Prop}:∀{t:KasT a},KS lt n t Q->Q (UD lt t)
 |.ret _=>fun h=>h
 |.ask i j k=>fun h=>KS.run (t:=k (lt i j)) h.2.2
def NC(a:Inv2 n p)(c:0<n){Q:Nat->Prop}(q:∀r,Q r):∀(f m:Nat),KA n (kas_asc p f m) Q
 |0=>fun m=>by rw[kas_asc.eq_def];exact q m
 |f+1=>fun m=>by
  rw[kas_asc.eq_def];refine⟨a.ent c _,a.ent c _,fun b=>?_⟩;cases b with
  |true=>exact q m
  |false=>exact NC a c q f (m+1)
def yI(c:0<n){Q:Tn×Nat×Nat->Prop}(k:∀p m q,Inv2 n p->Q (p,m,q)):∀(f:Nat)(p:Tn)(m q:Nat),Inv2 n p->KA n (kas_desc f p m q) Q
 |0=>fun p m q a=>by rw[kas_desc.eq_def];exact k p m q a
 |f+1=>fun p m q a=>by
  rw[kas_desc.eq_def];refine⟨a.ent c _,a.ent c _,fun b=>?_⟩;cases b with
  |true=>
   dsimp only;rw[A4 rfl];by_cases d:q > 0
   .rw[A4 d];exact yI c k f _ _ _ (gX a _ _)
   .rw[B2 d];exact yI c k f _ _ _ a
  |false=>
   dsimp only;rw[B2 A7];refine⟨a.ent c _,a.ent c _,fun b=>?_⟩;cases b with
   |true=>exact k p m q a
   |false=>exact yI c k f _ _ _ a
def HM(b:0<n){p:Tn}{m:Nat}(a:Inv2 n p):KA n (kas_tail3 m n p) (fun r=>Inv2 n r.2):=by
 rw[kas_tail3.eq_def];exact KA.bind (NC (gX a 0 m) b (fun r=>gX a 0 m) _ _)
def xR(c:0<n){p:Tn}{m:Nat}(g:Inv2 n p):KA n (kas_descPart m n p) (fun r=>Inv2 n r.2):=by
 rw[kas_descPart.eq_def];refine KA.bind (yI c (fun e b d a=>?_) _ _ _ _ g);show KA n (if d > 0 then kas_tail3 b n (kas_rev e (b-(d+1)) b)else kas_tail3 b n e) _;by_cases f:d > 0
 .rw[A4 f];exact HM c (gX a _ _)
 .rw[B2 f];exact HM c a
def WX(c:0<n){p:Tn}(a:Inv2 n p):KA n (kas_count n p) (fun r=>Inv2 n r.2):=by
 rw[kas_count.eq_def];refine KA.bind (NC a c (fun r=>?_) _ _);by_cases e:(r==n)=true
 .rw[A4 e];exact a
 .rw[B2 e];by_cases g:r > 1
  .rw[A4 g];refine⟨a.ent c _,a.ent c _,fun b=>?_⟩;cases b with
   |true=>exact a
   |false=>exact xR c (gX a _ _)
  .rw[B2 g];exact xR c a
def yV(a:0<n)(c:Inv2 n p){Q:Nat->Prop}(q:∀l,Q l):∀(f l r:Nat),KA n (kas_place p k f l r) Q
 |0=>fun l r=>by rw[kas_place.eq_def];exact q l
 |f+1=>fun l r=>by
  rw[kas_place.eq_def];show KA n (if l>=r then _ else _) Q;by_cases g:l>=r
  .rw[A4 g];exact q l
  .rw[B2 g];refine⟨c.ent a _,c.ent a _,fun b=>?_⟩;cases b with
   |true=>exact yV a c q f _ _
   |false=>exact yV a c q f _ _
def VO(b:0<n):∀(f:Nat)(p:Tn)(k:Nat),Inv2 n p->KA n (kas_bin f p k) (Inv2 n)
 |0=>fun p k a=>by rw[kas_bin.eq_def];exact a
 |f+1=>fun p k a=>by
  rw[kas_bin.eq_def];exact KA.bind (yV b a (fun l=>VO b f _ (k+1) ((bubble_perm p k (k-l)).trans a)) k 0 k)
def RF(d:0<n):KA n (kas_sort n) (Inv2 n):=by
 unfold kas_sort;have:=WX d (p:=(List.range n).toArray) (Array.Perm.refl _);refine KA.bind ?_
 have mono:∀{c:Type}{Q R:c->Prop}(m:∀a,Q a->R a)(t:KasT c),KA n t Q->KA n t R:=by
  intro c Q R m t
  induction t with
  |ret a=>exact m a
  |ask i j k ih=>exact fun h=>⟨h.1,h.2.1,fun b=>ih b (h.2.2 b)⟩
 refine mono (fun r a=>?_) _ this;by_cases e:r.fst<n
 .rw[A4 e];exact VO d _ _ _ a
 .rw[B2 e];exact a
def iJ(lt:Tt)(n:Nat):Tg:=(UD lt (kas_sort n)).toList
def mO(lt:Tt)(a:0<n):(iJ lt n).Perm (List.range n):=by
 have:=KS.run (KA.ks (lt:=lt) (RF a));simpa[iJ]using Array.perm_iff_toList_perm.mp this.2
end
end L2
namespace L2
variable{H:Hp}{K:Fg}{W:Wd}{σ:St}
open PySem PySem.Spec PyProof.Rows
mutual
noncomputable def eY:Ub->Bool
 |.int _=>true
 |.tuple xs=>dR xs
 |_=>false
noncomputable def dR:T6->Bool
 |[]=>true
 |x::r=>eY x&&dR r
end
mutual
def rk{h h':Heap}(k:∀b o vs n,h.get? b=Z o->o.data=.seq vs n->h'.get? b=Z o):∀(d:Ub)(v:Ua)(as:Td),eY d=true->Reads h v d as->Reads h' v d as
 |.int n=>fun _ _ _ r=>by cases r;exact .int _ _
 |.tuple xs=>fun _ _ e r=>by
  cases r with
  |tuple a b c d=>exact .tuple (k _ _ _ _ a c) b c (ZX k xs _ _ (by unfold eY at e;exact e) d)
 |.none=>fun _ _ e _=>by unfold eY at e;cases e
 |.bool _=>fun _ _ e _=>by unfold eY at e;cases e
 |.str _=>fun _ _ e _=>by unfold eY at e;cases e
 |.list _=>fun _ _ e _=>by unfold eY at e;cases e
 |.dict _=>fun _ _ e _=>by unfold eY at e;cases e
def ZX{h h':Heap}(k:∀b o vs n,h.get? b=Z o->o.data=.seq vs n->h'.get? b=Z o):∀(ds:T6)(vs:T7)(as:Td),dR ds=true->ReadsAll h vs ds as->ReadsAll h' vs ds as
 |[]=>fun _ _ _ r=>by cases r;exact .nil
 |d::ds=>fun _ _ e r=>by
  cases r with
  |cons a b=>
   unfold dR at e;rw[B8]at e;exact .cons (rk k d _ _ e.1 a) (ZX k ds _ _ e.2 b)
end
def ReadsAll.at:∀{ds:T6}{vs:T7}{as:Td}(i:Nat),ReadsAll h vs ds as->i<ds.length->∃bs,Reads h (vs.getD i .none) (ds.getD i .none) bs
 |[],_,_,i=>fun _ hi=>absurd hi (Nat.not_lt_zero _)
 |d::ds,_,_,0=>fun r _=>by cases r with|cons a b=>exact⟨_,a⟩
 |d::ds,_,_,i+1=>fun r hi=>by
  cases r with
  |cons a b=>
   obtain⟨bs,x⟩:=ReadsAll.at i b (Nat.lt_of_succ_lt_succ hi);exact⟨bs,x⟩
def ReadsAll.len:∀{ds:T6}{vs:T7}{as:Td},ReadsAll h vs ds as->vs.length=ds.length
 |[],_,_=>fun r=>by cases r;rfl
 |d::ds,_,_=>fun r=>by
  cases r with
  |cons a b=>simp[ReadsAll.len b]
section
variable{prog:Uf}{w:World}{A:Ug}{E:T1}{s:Uc}
def aGD{b c:Bool}{Q:Bool->Uc->Prop}(a:A.units+64<cLine)(d:Reads s.heap p (.tuple xs) as)(e:Reads s.heap q (.tuple ys) bs)
 (s1:xs.all SeqAt.shaped=true) (s2:ys.all SeqAt.shaped=true) (h:dU xs ys=Z c) (f:b=true->xs.head?.all isI=true/\ys.head?.all isI=true) (k:Q c s):wpAny (model prog w) A (keyLt' (tuples' b) p q) Q E s:=by
 cases d with
 |tuple g o i j=>
  cases e with
  |tuple l r m n=>
   refine PySem.W.kat_lt g i l m (OT a k xs ys _ _ _ _ 0 j n s1 s2 h (by simp) (fun z=>f ?_));simpa using z
noncomputable def nW(a:Tx (T6)):Bool:=a.all fun r=>match r with
 |.int _::_=>true
 |_=>false
noncomputable def uB(a:Tx (T6)):Bool:=a.all fun r=>match r with
 |.tuple _::_=>true
 |_=>false
def aFj(n:Int)(t:Tok):PySem.W.Looks M h (typeOf (.int n t)) (.type "int"):=fun A Q E s _ q=>by
 show wpAny M A (pure _) Q E s;exact B5 q
def firstsI:∀{c:Tx (T6)}{vs:T7}{as:Td},ReadsAll h vs (c.map .tuple) as->nW c=true->∃fs,PySem.W.KatTups h vs fs/\fs.length=c.length/\∀v∈fs,∃n t,v=.int n t
 |[],_,_=>fun r _=>by cases r;exact⟨[],.nil,rfl,fun v g=>nomatch g⟩
 |x::c,_,_=>fun r e=>by
  unfold nW at e;rw[A1b,B8]at e;cases r with
  |cons a b=>
   obtain⟨fs,k,m,p⟩:=firstsI b (by unfold nW;exact e.2);cases x with
   |nil=>exact absurd e.1 (by decide)
   |cons d ds=>
    cases d with
    |int n=>
     cases a with
     |tuple q u y j=>
      rename_i o vs C ;generalize g:vs.toList=l at j;cases j with
      |cons B D=>
       cases B with
       |int _ t=>
        refine⟨.int n t::fs,.cons q u y (f:=.int n t) ?_ k,by simp[m],?_⟩
        .rw[<- Z9,g];rfl
        .intro v i;rcases List.mem_cons.mp i with z|z
         .exact⟨_,_,z⟩
         .exact p v z
    |_=>exact absurd e.1 (by intro z;cases z)
end
section
variable{prog:Uf}{w:World}{A:Ug}{E:T1}{s:Uc}
def aFx{h:Heap}{a:Ud}{o:Obj}(g:h.get? a=Z o)(c:o.cls=.type "tuple"):PySem.W.Looks M h (typeOf (.ref a)) (.type "tuple"):=fun A Q E s k q=>A1p (show s.TypeIs (.ref a) "tuple" from⟨o,k _ _ g,c⟩) q
def OS:∀{c:Tx (T6)}{vs:T7}{as:Td},ReadsAll h vs (c.map .tuple) as->uB c=true->∃fs,PySem.W.KatTups h vs fs/\fs.length=c.length/\∀v∈fs,∃a o,v=.ref a/\h.get? a=Z o/\o.cls=.type "tuple"
 |[],_,_=>fun r _=>by cases r;exact⟨[],.nil,rfl,fun v g=>nomatch g⟩
 |x::c,_,_=>fun r e=>by
  unfold uB at e;rw[A1b,B8]at e;cases r with
  |cons a b=>
   obtain⟨fs,m,n,p⟩:=OS b (by unfold uB;exact e.2);cases x with
   |nil=>exact absurd e.1 (by decide)
   |cons d ds=>
    cases d with
    |tuple D=>
     cases a with
     |tuple q t u j=>
      rename_i o vs F;generalize g:vs.toList=l at j;cases j with
      |cons y G=>
       cases y with
       |@tuple k _ _ _ _ _ B C I J=>
        refine⟨.ref k::fs,.cons q t u (f:=.ref k) ?_ m,by simp[n],?_⟩
        .rw[<- Z9,g];rfl
        .intro v i;rcases List.mem_cons.mp i with z|z
         .exact⟨_,_,z,B,C⟩
         .exact p v z
    |_=>exact absurd e.1 (by intro z;cases z)
def SQ{b:Tx (T6)}{Q:SortKind->Uc->Prop}(r:ReadsAll s.heap vs (b.map .tuple) as)(j:0<b.length)(hk:nW b=true\/uB b=true)(q:Q (tuples' (nW b)) s):wpAny M A (keyKind' vs.toArray) Q E s:=by
 rcases hk with hk|hk
 .obtain⟨fs,f,k,h⟩:=firstsI r hk;rw[hk]at q;refine PySem.W.kat_kind (T:=.type "int") f (by omega) (fun v i=>?_) (by decide) q;obtain⟨n,t,rfl⟩:=h v i;exact aFj n t
 .obtain⟨fs,f,k,h⟩:=OS r hk
  have e:nW b=false:=by
   cases b with
   |nil=>cases j
   |cons x r=>
    unfold uB at hk;rw[A1b,B8]at hk;cases x with
    |nil=>rfl
    |cons d ds=>cases d<;>first|rfl|exact absurd hk.1 (by intro z;cases z)
  rw[e]at q;refine PySem.W.kat_kind (T:=.type "tuple") f (by omega) (fun v i=>?_) (by decide) q;obtain⟨a,o,rfl,g,c⟩:=h v i;exact aFx g c
end
section
variable{X:Cx}{pins:T2}{σ:St}{H:Hp}{s:Uc}{h':Heap}
def gM.there{P:Uf}(x:gM P w H h a o):∃u,h.get? a=Z u:=by
 induction o with
 |lst xs=>obtain⟨_,_,_,_,e⟩:=x;exact⟨_,e⟩
 |tup xs=>obtain⟨_,_,_,_,e,_⟩:=x;exact⟨_,e⟩
 |dK kvs=>obtain⟨_,_,_,_,o,_,_,e,_⟩:=x;exact⟨_,e⟩
 |dT kvs=>obtain⟨_,_,_,_,o,_,_,e,_⟩:=x;exact⟨_,e⟩
 |set S n=>obtain⟨o,_,_,_,e,_⟩:=x;exact⟨_,e⟩
 |ins C dx fs=>obtain⟨_,_,_,e,_⟩:=x;exact⟨_,e⟩
 |own y=>exact x
 |xd fs=>obtain⟨_,⟨_,_,_,e,_⟩,_⟩:=x;exact⟨_,e⟩
 |rng lo hi=>obtain⟨_,_,_,e⟩:=x;exact⟨_,e⟩
 |frz o u=>exact⟨_,x.1⟩
 |tbl ps=>exact⟨_,x⟩
 |met f b=>exact⟨_,x⟩
 |ext c=>exact x.2.1
def HOk.none{P:Uf}{a:Ud}(x:HOk P w H h)(e:h.get? a=Y):H a=Y:=by
 cases q:H a with
 |none=>rfl
 |some o=>
  obtain⟨u,z⟩:=(x a o q).there;rw[e]at z;cases z
def Inv.laidL{a:Ud}(I:Inv X pins σ H s)(k:∀b u,b≠X.env.locals->s.heap.get? b=Z u->h'.get? b=Z u)(ns:∀m,s.heap.Ns X.env.locals m->h'.Ns X.env.locals m)(f:s.heap.get? a=Y)(new:gM X.prog X.w (upd H a o) h' a o):
 Inv X pins σ (upd H a o) { s with heap:=h' }:=by
 have hn:=I.hok.none f;have nt:∀b u,H b=Z u->b≠X.env.locals:=fun b u e z=>by rw[z,I.free]at e;cases e
 refine I.step (g':=s.gens) (t':=s.toks) (d':=s.drawn) (ch:=[]) (fun _ z=>nomatch z) (fun b o d _ _ e _=>k b o d e) (fun b o d _ _ e _=>⟨o.slots,k b o d e⟩) (fun b o _ e n=>?_) (fun b o _ e=>?_) (fun b xs e=>?_) (fun b o u e=>?_) (fun b ps e=>⟨#[],?_⟩) ns ?_ I.bare
 .rw[aU (fun z=>by subst z;rw[f]at e;cases e)];exact n
 .by_cases z:b=X.env.locals
  .subst z;obtain⟨m,hm,_⟩:=I.loc;obtain⟨o',_,_,q,_⟩:=ns m hm;exact⟨o',q⟩
  .exact⟨o,k b o z e⟩
 .rw[aU (aW e hn)];exact e
 .rw[aU (aW e hn)];exact e
 .rw[aU (aW e hn)];simpa using e
 .intro b u e;by_cases g:b=a
  .subst g;rw[bA]at e;cases e;exact new
  .rw[aU g]at e;refine(I.hok b u e).stay (fun c v h q=>k c v ?_ q) (fun c q=>by rw[aU (aW q hn)];exact q) fun c xs q=>by rw[aU (aW q hn)];exact q
   rcases h with z|z
   .rw[z];exact nt b _ e
   .exact nt c _ z
def OZ{h:Heap}(a:h.Ns L m)(b:h.Ns L c):m=c:=by
 obtain⟨o,es,ep,f,g,_,i⟩:=a;obtain⟨o',j,k,d,e,_,l⟩:=b;rw[f]at d;cases d;rw[g]at e;cases e;funext x;rw[<- i x,l x]
def jF(a:Tx (T6))(i j:Nat):Bool:=(dU (a.getD i []) (a.getD j [])).getD false
def LD(K:Fg):Tf->Hp->VK->Prop:=fun xs H Q=>∃(p:Ud)(vs:Tf)(a:Tx (T6)),xs=[.ref p]/\SqL K H p vs/\aL K H (a.map .tuple) vs/\2<=a.length/\a.length<64 /\
 (∀r∈a,r.all SeqAt.shaped=true/\dR r=true)/\(nW a=true\/uB a=true)/\(∀i j,i<a.length->j<a.length->(dU (a.getD i []) (a.getD j [])).isSome=true) /\
 ∀l,H l=Y->Q (.ref l) (upd H l (.lst ((iJ (jF a) a.length).map fun i=>vs.getD i .non)))
def DN(r:bH vs us):∀ps:Tg,bH (ps.map fun i=>vs.getD i .non) (ps.map fun i=>us.getD i .none)
 |[]=>.nil
 |p::ps=>by
  refine .cons ?_ (DN r ps)
  have go:∀{vs:Tf}{us:T7}(i:Nat),bH vs us->RelV (vs.getD i .non) (us.getD i .none):=by
   intro vs us i r
   induction r generalizing i with
   |nil=>exact rfl
   |cons a b ih=>cases i with
    |zero=>exact a
    |succ i=>exact ih i
  exact go p r
def HF(hu:X.A.in1.in1.units+64<cLine):dM X (.builtin "sorted") (LD X.K):=by
 intro pins s σ H xs us Q I r h;obtain⟨p,vs,a,rfl,hp,k,h2,T,f,l,w,q⟩:=h;obtain⟨u,rfl,ru⟩:=vals1 r;cases ru;obtain⟨g,rv,pl,hz⟩:=I.list hp;obtain⟨as,B⟩:=aL.reads I _ vs g k rv;have t:g.length=a.length:=by rw[ReadsAll.len B,A0]
 obtain⟨m,F⟩:=I.fr;have N:News X.base X.env.locals s.heap (jK X.base s.heap X.env.locals):=JO;refine PySem.W.kat_sorted F N pl.isList (by omega) (by omega) fun D e1 h' F' N' hD=>?_
 have kp:∀(R:Heap),Fr X.base X.env.locals R m->(∀q∈jK X.base s.heap X.env.locals,R.get? q.1=Z q.2)->∀b o,b≠X.env.locals->s.heap.get? b=Z o->R.get? b=Z o:=fun R G1 M1 b o hb e=>by
  cases z:X.base.get? b with
  |some v=>
   have:=I.bk b v z;rw[e]at this;cases this;exact G1.keep b _ z
  |none=>exact M1 (b,o) (qE hb z e)
 have k':=kp h' F' (fun q E=>(N' q (B0 _ E)).1)
 have G:s.heap.get? D=Y:=by
  have hN:=N' _ A9;cases e:s.heap.get? D with
  |none=>rfl
  |some o=>exact absurd (hD (D,o) (qE hN.2.1 hN.2.2 e)) (L8 _)
 have J:∀b o vs n,s.heap.get? b=Z o->o.data=.seq vs n->b≠X.env.locals:=fun b o vs n e d z=>by
  obtain⟨o',es,ep,x1,x2,_⟩:=F.ns;subst z;rw[e]at x1;cases x1;rw[d]at x2;cases x2
 have U:dR (a.map .tuple)=true:=by
  clear k B t q l w h2 T
  induction a with
  |nil=>rfl
  |cons x r ih=>
   show(dR x&&dR (r.map .tuple))=true;rw[(f x A9).2,ih fun y hy=>f y (B0 _ hy)];rfl
 have L:ReadsAll h' g (a.map .tuple) as:=ZX (fun b o vs n e d=>k' b o (J b o vs n e d) e) _ _ _ U B;refine SQ (s:={ s with heap:=h' }) L (by omega) l ?_;rw[t];refine KS.wp (lt:=jF a) (n:=a.length) (fun i j C hi S c=>?_) (fun p V=>?_) ((RF (by omega)).ks (lt:=jF a))
 .have at_:∀i,i<a.length->∃bs,Reads h' (g.getD i .none) (.tuple (a.getD i [])) bs:=fun i hi=>by
   obtain⟨bs,x⟩:=ReadsAll.at i L (by simpa using hi)
   have:(a.map PyData.tuple).getD i .none=.tuple (a.getD i []):=by
    rw[A8,D6,A8,B1 hi];rfl
   rw[this]at x;exact⟨bs,x⟩
  obtain⟨b1,r1⟩:=at_ i hi;obtain⟨b2,r2⟩:=at_ j S
  have mem:∀i,i<a.length->a.getD i []∈a:=fun i hi=>by
   rw[A8,B1 hi];exact S9 hi
  have hd:nW a=true->∀r∈a,r.head?.all isI=true:=fun z r B=>by
   unfold nW at z;have:=List.all_eq_true.mp z r B;cases r with
   |nil=>rfl
   |cons d ds=>cases d<;>first|rfl|exact absurd this (by intro z;cases z)
  obtain⟨c0,M⟩:=Option.isSome_iff_exists.mp (w i j hi S);have hc:jF a i j=c0:=by unfold jF;rw[M];rfl
  rw[hc]at c;exact aGD (s:={ s with heap:=h' }) hu r1 r2 (f _ (mem i hi)).1 (f _ (mem j S)).1 M (fun z=>⟨hd z _ (mem i hi),hd z _ (mem j S)⟩) c
 .obtain⟨e,_⟩:=V;subst e;refine PySem.W.KasFin.intro F' N' (.head fun q E=>C8 (hD q E)) fun a0 c O P=>?_;have a1:=kp a0 O (fun q E=>(P q (B0 _ E)).1);refine⟨.ref D,upd H D (.lst ((iJ (jF a) a.length).map fun i=>vs.getD i .non)),?_,rfl,q D (I.hok.none G)⟩;refine I.laidL a1 (fun m' a2=>?_) G ⟨?_,_,c,DN rv _,(P _ A9).1⟩
  .rw[<- OZ F.ns a2];exact O.ns
  .rw[A0,(mO (jF a) (by omega)).length_eq,E8];have:64<=sizeLine:=by decide
   omega
end
def rowsOf:T6->Tz (Tx (T6))
 |[]=>Z []
 |.tuple r::ds=>(rowsOf ds).bind fun rs=>Z (r::rs)
 |_=>Y
def vL:∀{ds:T6}{a:Tx (T6)},rowsOf ds=Z a->ds=a.map .tuple
 |[],_=>fun h=>by cases h;rfl
 |d::ds,a=>fun h=>by
  cases d with
  |tuple r=>
   have h:(rowsOf ds).bind (fun rs=>Z (r::rs))=Z a:=h;obtain⟨rs,b,c⟩:=Option.bind_eq_some_iff.mp h;cases c;rw[vL b];rfl
  |_=>cases h
def sortable(a:Tx (T6)):Bool:=decide (2<=a.length)&&decide (a.length<64)&&a.all (fun r=>r.all SeqAt.shaped&&dR r)&&(nW a || uB a)&&(List.range a.length).all fun i=>(List.range a.length).all fun j=>(dU (a.getD i []) (a.getD j [])).isSome
def KU(a:Tx (T6)):T6:=(iJ (jF a) a.length).map fun i=>.tuple (a.getD i [])
def mL:FN:=fun xs M=>match xs with
 |[.d (.list ds)]=>(rowsOf ds).bind fun a=>if sortable a=true then Z (.d (.list (KU a)),M)else Y
 |[.c i]=>match M[i]? with
  |some (.lst b)=>(iU b).bind fun ds=>(rowsOf ds).bind fun a=>if sortable a=true then Z (.d (.list (KU a)),M)else Y
  |_=>Y
 |_=>Y
def mE(h:sortable a=true):2<=a.length/\a.length<64/\(∀r∈a,r.all SeqAt.shaped=true/\dR r=true)/\(nW a=true\/uB a=true)/\(∀i j,i<a.length->j<a.length->(dU (a.getD i []) (a.getD j [])).isSome=true):=by
 unfold sortable at h;rw[B8,B8,B8,B8,Bool.or_eq_true]at h;obtain⟨⟨⟨⟨b,c⟩,d⟩,h4⟩,e⟩:=h;refine⟨D9 b,D9 c,fun r f=>?_,h4,fun i j hi g=>?_⟩
 .have:=List.all_eq_true.mp d r f
  rwa [B8]at this
 .exact List.all_eq_true.mp (List.all_eq_true.mp e i (List.mem_range.mpr hi)) j (List.mem_range.mpr g)
section
variable{K:Fg}
def aL.len{H:Hp}:∀{ds:T6}{vs:Tf},aL K H ds vs->vs.length=ds.length
 |[],_=>fun h=>by
  have h:_=[]:=h;rw[h];rfl
 |d::ds,_=>fun h=>by
  obtain⟨v,r,rfl,_,a⟩:=(show ∃v r,_=v::r/\Rep K H d v/\aL K H ds r from h);simp[aL.len a]
def BK{H:Hp}{a:Tx (T6)}(r:aL K H (a.map .tuple) us):∀ps:Tg,(∀i∈ps,i<a.length)->aL K H (ps.map fun i=>.tuple (a.getD i [])) (ps.map fun i=>us.getD i .non)
 |[]=>fun _=>rfl
 |p::ps=>fun b=>by
  refine⟨_,_,rfl,?_,BK r ps fun i hi=>b i (B0 _ hi)⟩;have hi:=b p A9;have f:=aL.len r;rw[A0]at f
  have g:us[p]?=Z (us.getD p .non):=by
   rw[A8,B1 (by omega)];rfl
  obtain⟨d,c,h⟩:=aL.get r g;rw[D6,B1 hi]at c;cases c;have e:a.getD p []=a[p]:=by rw[A8,B1 hi];rfl
  show Rep K H (.tuple (a.getD p [])) (us.getD p .non);rw[e];exact h
def aEq{lt:Tt}{n:Nat}(a:0<n):∀i∈iJ lt n,i<n:=fun i hi=>List.mem_range.mp ((mO lt a).mem_iff.mp hi)
def SJ:PN K (LD K) mL:=by
 intro xs M z M' h W H vs Q G r k;unfold mL at h;split at h
 .rename_i ds;obtain⟨b,e,h⟩:=aM h;by_cases hs:sortable b=true
  .rw[A4 hs]at h;cases h;obtain⟨f,g,j,m,n⟩:=mE hs;rcases r with _|⟨q,_|_⟩;obtain⟨p,us,rfl,u,c⟩:=(show ∃a us,_=V.ref a/\SqL K W.F a us/\aL K W.F ds us from q);rw[vL e]at c;refine⟨p,us,b,rfl,G.fh.seq u,aL.same G.fh _ _ c,f,g,j,m,n,fun l s=>?_⟩;obtain⟨d,t⟩:=G.lay (o:=.lst ((iJ (jF b) b.length).map fun i=>us.getD i .non)) s;exact k _ _ _ d t ⟨l,_,rfl,SqL.of bA,BK (aL.same d.ff _ _ c) _ (aEq (by omega))⟩
  .rw[B2 hs]at h;cases h
 .rename_i i;split at h
  .rename_i y v;obtain⟨ds,w,h⟩:=aM h;obtain⟨b,e,h⟩:=aM h;by_cases hs:sortable b=true
   .rw[A4 hs]at h;cases h;obtain⟨f,g,j,m,n⟩:=mE hs;rcases r with _|⟨q,_|_⟩;obtain⟨us,x,c⟩:=G.lstAt v;have c:=dZ w c;rw[vL e]at c;rw[q.2];refine⟨_,us,b,rfl,SqL.of x,aL.same G.fh _ _ c,f,g,j,m,n,fun l s=>?_⟩;obtain⟨d,t⟩:=G.lay (o:=.lst ((iJ (jF b) b.length).map fun i=>us.getD i .non)) s;exact k _ _ _ d t ⟨l,_,rfl,SqL.of bA,BK (aL.same d.ff _ _ c) _ (aEq (by omega))⟩
   .rw[B2 hs]at h;cases h
  .cases h
 .cases h
end
def eJ.units2(r:eJ k A):A.in1.in1.units+64<cLine:=by have:=r.un;show A.units+1+1+64<_;omega
section
variable{prog:Uf}{w:World}{A:Ug}{E:T1}{s:Uc}
def xS{a:Ud}{vs:T7}{P:PySem.Fin->Uc->Prop}(g:s.heap.get? a=Z (seqObj "list" vs.toArray n))(c:vs.length<2)
 (k:P (.done (.ret .none)) { s with heap:=sortedHeap s.heap a vs vs.toArray }):wpAny (model prog w) A (Builtin.«list.sort» ⟨[.ref a],[]⟩) P E s:=by
 rw[list_sort_plain];have d:vs.toArray.size<=sizeLine:=by rw[C5,S7];omega
 refine A1 (listItems_at g rfl ?_);refine A1 (listUpdate_at g rfl ?_ d (by simp));have b:=Z6 g (fun _=>#[]);have f:=B7 b;refine A1 (seqEpoch_at b rfl ?_);refine A1 (wpAny_newTuple ?_ (by simpa using d));refine A1 (wpAny_newList ?_);refine S5 ?_;have hs:vs.toArray.size<2:=by simpa using c
 dsimp only;rw[A4 hs,A4 hs];refine A1 (B5 ?_);refine A1 ?_;show wpAny (model prog w) A (pure ((),SortSt.mk' general' (vs.toArray.zip vs.toArray) #[] 7 Y)) _ E _;refine B5 ?_;dsimp only;have h:=A3 { cls:=.type "tuple",data:=.seq vs.toArray.toList.toArray } b;have e:=A3 { cls:=.type "list",data:=.seq ([]:T7).toArray } h;refine A1 (seqEpoch_at e rfl ?_)
 have hm:Array.map (fun x=>x.snd) (arrOf (SortSt.mk' general' (vs.toArray.zip vs.toArray) #[] 7 Y))=vs.toArray:=by
  show Array.map (fun x=>x.snd) (vs.toArray.zip vs.toArray)=vs.toArray
  apply Array.ext
  .simp
  .intro i j c;simp
 rw[hm];refine A1 (listUpdate_at e rfl ?_ (by simp) (by omega));rw[B2 (by simp)];exact B5 k
def GL{vs:T7}{Q:T1}(g:s.heap.IsList l vs.toArray)(p:vs.length<2)
 (k:∀(h':Heap)(D:Ud),(∀b o,s.heap.get? b=Z o->h'.get? b=Z o)->s.heap.objs.size<=D->(∃c,h'.get? D=Z (seqObj "list" vs.toArray c))->Q (.ref D) { s with heap:=h' }):wpAny (model prog w) A (call (.builtin "sorted") [.ref l]) Q E s:=by
 refine Calls.call_function_entry kind_sorted plain_sorted entry_sorted (args_sorted1 _) ?_;have i:vs.length<=sizeLine:=by rw[S7];omega
 unfold Builtin.sorted;refine A1 (show wpAny _ _ (pure ()) _ _ _ from B5 ?_);refine A1 (collect_list g ?_ i);refine A1 (wpAny_newList ?_ i);generalize a:(s.heap.push (seqObj "list" #[] 0)).update s.heap.objs.size (Obj.mapSeq fun x=>x++vs.toArray)=d
 have j:∀b o,s.heap.get? b=Z o->d.get? b=Z o:=fun b o e=>by
  rw[<- a,U5 _ _ _ _ (C8 (B7 e))];exact A3 _ e
 have f:s.heap.objs.size<=d.objs.size:=by
  have q:(s.heap.push (seqObj "list" #[] 0)).get? s.heap.objs.size=Z (seqObj "list" #[] 0):=C6 _ rfl;have m:=Z6 q (fun x=>x++vs.toArray);rw[a]at m;exact A1j (B7 m)
 refine A1 (S5 ?_);have h:(d.push { cls:=.type "list",data:=.seq vs.toArray }).get? d.objs.size=Z (seqObj "list" vs.toArray 0):=C6 _ rfl;refine U7 slot_list_sort ⟨_,h,rfl⟩ entry_list_sort (xS h p ⟨_,rfl,?_⟩) (args_list_sort _);refine B5 ⟨_,rfl,k _ _ (fun b o e=>?_) f ?_⟩
 .have n:b≠d.objs.size:=C8 (B7 (j b o e));unfold sortedHeap;rw[U5 _ _ _ _ n];refine A3 _ (A3 _ ?_);rw[U5 _ _ _ _ n];exact A3 _ (j b o e)
 .unfold sortedHeap;have r:=Z6 h (fun _=>#[]);have t:=A3 (seqObj "tuple" vs.toArray 0) r;have u:=A3 (seqObj "list" #[] 0) t;exact⟨_,Z6 u (fun _=>vs.toArray)⟩
end
def LN(K:Fg):Tf->Hp->VK->Prop:=fun xs H Q=>∃(p:Ud)(vs:Tf),xs=[.ref p]/\SqL K H p vs/\vs.length<2/\∀l,H l=Y->Q (.ref l) (upd H l (.lst vs))
def HH:dM X (.builtin "sorted") (LN X.K):=by
 intro pins s σ H xs us Q I r h;obtain⟨p,vs,rfl,e,l,q⟩:=h;obtain⟨u,rfl,f⟩:=vals1 r;cases f;obtain⟨a,b,i,j⟩:=I.list e;have m:=b.length;refine GL i.isList (by omega) fun h' D k d ⟨c,g⟩=>?_;exact⟨.ref D,upd H D (.lst vs),I.laid (t':=s.toks) k d ⟨j,a,c,b,g⟩,rfl,q D (I.hok.fresh d)⟩
def aAN(K:Fg):Tf->Hp->VK->Prop:=fun xs H Q=>LD K xs H Q\/LN K xs H Q
def aGv{X:Cx}(h:X.K=K)(a:X.A.in1.in1.units+64<cLine):dM X (.builtin "sorted") (aAN K):=by
 subst h;intro pins s σ H xs us Q I r h;rcases h with h|h
 .exact HF a pins s σ H xs us Q I r h
 .exact HH pins s σ H xs us Q I r h
def iV:FN:=fun xs M=>match xs with
 |[.d (.list ds)]=>if ds.length<2 then Z (.d (.list ds),M)else Y
 |[.c i]=>match M[i]? with
  |some (.lst a)=>(iU a).bind fun ds=>if ds.length<2 then Z (.d (.list ds),M)else Y
  |_=>Y
 |_=>Y
def aBl:PN K (LN K) iV:=by
 intro xs M z M' h W H vs Q G r k;unfold iV at h;split at h
 .rename_i ds;by_cases hs:ds.length<2
  .rw[A4 hs]at h;cases h;rcases r with _|⟨d,_|_⟩;obtain⟨p,us,rfl,g,b⟩:=(show ∃a us,_=V.ref a/\SqL K W.F a us/\aL K W.F ds us from d);refine⟨p,us,rfl,G.fh.seq g,by rw[aL.len b];exact hs,fun l e=>?_⟩;obtain⟨c,f⟩:=G.lay (o:=.lst us) e;exact k _ _ _ c f ⟨l,_,rfl,SqL.of bA,aL.same c.ff _ _ b⟩
  .rw[B2 hs]at h;cases h
 .rename_i i;split at h
  .rename_i q j;obtain⟨ds,m,h⟩:=aM h;by_cases hs:ds.length<2
   .rw[A4 hs]at h;cases h;rcases r with _|⟨d,_|_⟩;obtain⟨us,n,b⟩:=G.lstAt j;have b:=dZ m b;rw[d.2];refine⟨_,us,rfl,SqL.of n,by rw[aL.len b];exact hs,fun l e=>?_⟩;obtain⟨c,f⟩:=G.lay (o:=.lst us) e;exact k _ _ _ c f ⟨l,_,rfl,SqL.of bA,aL.same c.ff _ _ b⟩
   .rw[B2 hs]at h;cases h
  .cases h
 .cases h
def dO:FN:=fun xs M=>match iV xs M with
 |some r=>Z r
 |none=>mL xs M
def ZA:PN K (aAN K) dO:=by
 intro xs M z M' h W H vs Q G r k;unfold dO at h;split at h
 .rename_i q a;cases h;exact .inr (aBl xs M z M' a W H vs Q G r k)
 .exact .inl (SJ xs M z M' h W H vs Q G r k)
def yR{ι:Type}{X:ι->Cx}(a:∀i,(X i).K=K)(b:∀i,(X i).A.in1.in1.units+64<cLine):QN K X (.builtin "sorted") dO:=⟨_,fun i=>aGv (a i) (b i),ZA⟩
mutual
def EU:∀(x y:Ub),eY x=true->eY y=true->(PyData.eqv x y=true↔x=y)
 |.int a,.int b=>fun _ _=>by rw[PyData.eqv.eq_def];simp
 |.int a,.tuple b=>fun _ _=>by rw[PyData.eqv.eq_def];simp
 |.tuple a,.int b=>fun _ _=>by rw[PyData.eqv.eq_def];simp
 |.tuple xs,.tuple c=>fun h k=>by
  unfold eY at h k;rw[PyData.eqv.eq_def];have:=aDS xs c h k;simpa using this
 |.none,_=>fun h _=>by unfold eY at h;cases h
 |.bool _,_=>fun h _=>by unfold eY at h;cases h
 |.str _,_=>fun h _=>by unfold eY at h;cases h
 |.list _,_=>fun h _=>by unfold eY at h;cases h
 |.dict _,_=>fun h _=>by unfold eY at h;cases h
 |.int _,.none=>fun _ h=>by unfold eY at h;cases h
 |.int _,.bool _=>fun _ h=>by unfold eY at h;cases h
 |.int _,.str _=>fun _ h=>by unfold eY at h;cases h
 |.int _,.list _=>fun _ h=>by unfold eY at h;cases h
 |.int _,.dict _=>fun _ h=>by unfold eY at h;cases h
 |.tuple _,.none=>fun _ h=>by unfold eY at h;cases h
 |.tuple _,.bool _=>fun _ h=>by unfold eY at h;cases h
 |.tuple _,.str _=>fun _ h=>by unfold eY at h;cases h
 |.tuple _,.list _=>fun _ h=>by unfold eY at h;cases h
 |.tuple _,.dict _=>fun _ h=>by unfold eY at h;cases h
def aDS:∀(xs c:T6),dR xs=true->dR c=true->(PyData.eqvAll xs c=true↔xs=c)
 |[],[]=>fun _ _=>by rw[A1l];simp
 |[],_::_=>fun _ _=>by rw[A1l];simp
 |_::_,[]=>fun _ _=>by rw[A1l];simp
 |x::xs,y::c=>fun h k=>by
  unfold dR at h k;rw[B8]at h k;rw[A1l];show(PyData.eqv x y&&PyData.eqvAll xs c)=true↔_;rw[B8,EU x y h.1 k.1,aDS xs c h.2 k.2,S3]
end
def YJ:∀a b:T9,HT.lexLt a b=true->HT.lexLt b a=false
 |[],[]=>fun h=>by cases h
 |[],_::_=>fun _=>rfl
 |_::_,[]=>fun h=>by cases h
 |x::xs,y::c=>fun h=>by
  rw[HT.lexLt_cons]at h ⊢;by_cases e:x=y
  .rw[A4 e]at h;rw[A4 e.symm];exact YJ xs c h
  .rw[B2 e]at h;rw[B2 (U3 e)];have:=D9 h;exact E4 (by omega)
def wI:∀a b c:T9,HT.lexLt b a=false->HT.lexLt c b=false->HT.lexLt c a=false
 |[],_,[]=>fun _ _=>rfl
 |[],_,_::_=>fun _ _=>rfl
 |x::xs,[],_=>fun h _=>by cases h
 |x::xs,y::f,[]=>fun _ h=>by cases h
 |x::xs,y::f,z::g=>fun h k=>by
  rw[HT.lexLt_cons]at h k ⊢;by_cases e:y=x
  .rw[A4 e]at h;by_cases d:z=y
   .rw[A4 d]at k;rw[A4 (d.trans e)];exact wI xs f g h k
   .rw[B2 d]at k;subst e;rw[B2 d];exact k
  .rw[B2 e]at h;have h:=S8 h;by_cases d:z=y
   .subst d;rw[B2 e];exact E4 h
   .rw[B2 d]at k;have k:=S8 k;rw[B2 (by omega)];exact E4 (by omega)
def aAI:∀a b:T9,HT.lexLt a b=false->HT.lexLt b a=false->a=b
 |[],[]=>fun _ _=>rfl
 |[],_::_=>fun h _=>by cases h
 |_::_,[]=>fun _ h=>by cases h
 |x::xs,y::c=>fun h k=>by
  rw[HT.lexLt_cons]at h k;by_cases e:x=y
  .rw[A4 e]at h;rw[A4 e.symm]at k;rw[e,aAI xs c h k]
  .rw[B2 e]at h;rw[B2 (U3 e)]at k;have h:=S8 h;have k:=S8 k;omega
def UM:∀{xs ys:T6}{ns:T9},cN xs=Z ns->cN ys=Z ns->xs=ys:=by
 have go:∀{xs:T6}{ns:T9},cN xs=Z ns->xs=ns.map .int:=by
  intro xs
  induction xs with
  |nil=>intro ns h;cases h;rfl
  |cons d ds ih=>
   intro ns h;cases d with
   |int n=>
    have h:(cN ds).bind (fun ns=>Z (n::ns))=Z ns:=h;obtain⟨ms,a,b⟩:=Option.bind_eq_some_iff.mp h;cases b;rw[ih a];rfl
   |_=>cases h
 intro xs ys ns h k;rw[go h,go k]
def rQ{c:Bool}(h:fE x y=Z c):(∃a b,x=.int a/\y=.int b/\c=decide (a<b))\/∃xs ys ns ms,x=.tuple xs/\y=.tuple ys/\cN xs=Z ns/\cN ys=Z ms/\c=HT.lexLt ns ms:=by
 unfold fE at h;split at h
 .cases h;exact .inl ⟨_,_,rfl,rfl,rfl⟩
 .obtain⟨ns,d,h⟩:=Option.bind_eq_some_iff.mp h;obtain⟨ms,e,h⟩:=Option.bind_eq_some_iff.mp h;cases h;exact .inr ⟨_,_,_,_,rfl,rfl,d,e,rfl⟩
 .cases h
def HP{c:Bool}(h:fE x y=Z c):∃d,fE y x=Z d/\(c=true->d=false)/\(c=false->d=false->x=y):=by
 rcases rQ h with⟨a,b,rfl,rfl,rfl⟩|⟨xs,i,ns,ms,rfl,rfl,f,g,rfl⟩
 .refine⟨decide (b<a),rfl,fun z=>E4 (by have:=D9 z;omega),fun z e=>?_⟩;have z:=S8 z;have e:=S8 e;rw[show a=b by omega]
 .refine⟨HT.lexLt ms ns,?_,fun z=>YJ _ _ z,fun z e=>?_⟩
  .show(cN i).bind _=_;rw[g];show(cN xs).bind _=_;rw[f];rfl
  .have:=aAI _ _ z e;subst this;rw[UM f g]
def aBD(h:fE y x=Z false)(k:fE z y=Z false):fE z x=Z false:=by
 rcases rQ h with⟨a,b,rfl,rfl,g⟩|⟨xs,j,ns,ms,rfl,rfl,l,m,g⟩
 .rcases rQ k with⟨c,d,rfl,e,f⟩|⟨_,_,_,_,_,e,_⟩
  .cases e;have g:=S8 g.symm;have f:=S8 f.symm;show Z (decide (c<b))=Z false;rw[E4 (by omega)]
  .cases e
 .rcases rQ k with⟨c,d,rfl,e,f⟩|⟨n,o,p,q,rfl,e,r,i,f⟩
  .cases e
  .cases e;rw[l]at i;cases i;have:=wI _ _ _ g.symm f.symm;show(cN n).bind _=_;rw[r];show(cN j).bind _=_;rw[m];show Z _=Z false;rw[this]
def aAo:∀a b:T6,dR a=true->dR b=true->dU a b=Z true->dU b a=Z false
 |[],[]=>fun _ _ h=>by cases h
 |[],_::_=>fun _ _ _=>rfl
 |_::_,[]=>fun _ _ h=>by cases h
 |x::xs,y::c=>fun p q h=>by
  unfold dR at p q;rw[B8]at p q;have h:(if PyData.eqv x y=true then dU xs c else fE x y)=Z true:=h;show(if PyData.eqv y x=true then dU c xs else fE y x)=Z false;by_cases e:PyData.eqv x y=true
  .rw[A4 e]at h;have f:=(EU x y p.1 q.1).mp e;rw[A4 ((EU y x q.1 p.1).mpr f.symm)];exact aAo xs c p.2 q.2 h
  .rw[B2 e]at h;rw[B2 fun z=>e ((EU x y p.1 q.1).mpr ((EU y x q.1 p.1).mp z).symm)];obtain⟨d,g,i,_⟩:=HP h;rw[g,i rfl]
def ZL:∀a b c:T6,dR a=true->dR b=true->dR c=true->dU b a=Z false->dU c b=Z false->dU c a=Z false
 |[],_,[]=>fun _ _ _ _ _=>rfl
 |[],_,_::_=>fun _ _ _ _ _=>rfl
 |x::xs,[],_=>fun _ _ _ h _=>by cases h
 |x::xs,y::j,[]=>fun _ _ _ _ h=>by cases h
 |x::xs,y::j,z::l=>fun p q r h k=>by
  unfold dR at p q r;rw[B8]at p q r;have g:(if PyData.eqv y x=true then dU j xs else fE y x)=Z false:=h;clear h;have f:(if PyData.eqv z y=true then dU l j else fE z y)=Z false:=k;clear k;show(if PyData.eqv z x=true then dU l xs else fE z x)=Z false;by_cases e:PyData.eqv y x=true
  .rw[A4 e]at g;have m:=(EU y x q.1 p.1).mp e;subst m;by_cases i:PyData.eqv z y=true
   .rw[A4 i]at f ⊢;exact ZL xs j l p.2 q.2 r.2 g f
   .rw[B2 i]at f ⊢;exact f
  .rw[B2 e]at g;by_cases i:PyData.eqv z y=true
   .have m:=(EU z y r.1 q.1).mp i;subst m;rw[B2 e];exact g
   .rw[B2 i]at f
    have n:¬PyData.eqv z x=true:=fun w=>by
     have w:=(EU z x r.1 p.1).mp w;subst w;obtain⟨d,o,_,s⟩:=HP g;rw[o]at f;cases f;exact e ((EU y z q.1 p.1).mpr (s rfl rfl))
    rw[B2 n];exact aBD g f
def WC(h:sortable f=true):tX (jF f):=by
 obtain⟨q,s,n,t,o⟩:=mE h
 have g:∀i,dR (f.getD i [])=true:=fun i=>by
  rw[A8];cases e:f[i]? with
  |none=>rfl
  |some r=>exact(n r (Y9 e)).2
 have k:∀i,¬i<f.length->f.getD i []=[]:=fun i hi=>by
  rw[A8,A0a (by omega)];rfl
 have l:∀i j,∃c,dU (f.getD i []) (f.getD j [])=Z c:=fun i j=>by
  by_cases hi:i<f.length
  .by_cases m:j<f.length
   .exact Option.isSome_iff_exists.mp (o i j hi m)
   .rw[k j m];cases f.getD i []with
    |nil=>exact⟨_,rfl⟩
    |cons _ _=>exact⟨_,rfl⟩
  .rw[k i hi];exact⟨_,rfl⟩
 have is:∀i j c,jF f i j=c->dU (f.getD i []) (f.getD j [])=Z c:=fun i j c e=>by
  obtain⟨d,hd⟩:=l i j;unfold jF at e;rw[hd]at e ⊢;exact C9 Z e
 have un:∀i j c,dU (f.getD i []) (f.getD j [])=Z c->jF f i j=c:=fun i j c e=>by
  unfold jF;rw[e];rfl
 exact⟨fun a b e=>un _ _ _ (aAo _ _ (g a) (g b) (is _ _ _ e)),fun a b c e p=>un _ _ _ (ZL _ _ _ (g a) (g b) (g c) (is _ _ _ e) (is _ _ _ p))⟩
def BO{a:Tx (T6)}(h:sortable a=true):iN (jF a) (UD (jF a) (PySem.W.kas_sort a.length)) a.length:=
 (KS.run (aCf (WC h) (by have:=(mE h).1;omega))).2
def TrS(h B:Heap)(e:Ud)(vs:Tl):Ti->Prop
 |none=>vs[1]?=Z .none
 |some c=>∃T a b,vs[1]?=Z (.ref T)/\B.get? T=Y/\T≠e/\h.get? T=Z a/\a.data=.fields b/\b[3]?=Z c
def Tr(h B:Heap)(e:Ud)(c:Ua)(dx:Tk)(st:Ti):Prop:=
 ∃a vs,h.get? e=Z a/\(a.cls=c/\a.dict=dx)/\a.data=.fields vs/\1<vs.size/\TrS h B e vs st
structure Fly(B:Heap)(l:Tx Env)(e:Ud)(c:Ua)(dx:Tk)(st:Ti)(h:Heap):Prop where
 stays:B.StaysIn h
 new:B.get? e=Y
 frames:h.FunFrames B l
 tr:Tr h B e c dx st
def Fly.obj{B:Heap}{st:Ti}(F:Fly B l e c dx st h):∃a vs,h.get? e=Z a/\a.cls=c/\a.dict=dx/\a.data=.fields vs:=by
 obtain⟨a,vs,d,b,f,_⟩:=F.tr;exact⟨a,vs,d,b.1,b.2,f⟩
def aCp(o:Obj)(f:Tl->Tl):(o.mapFields f).dict=o.dict:=by
 obtain⟨c,d,dt,sl⟩:=o;cases dt<;>rfl
section
variable{M:Model}{A:Ug}{E:T1}{s:Uc}{B:Heap}{env:Env}{outer l:Tx Env}{L e:Ud}{c:Ua}{dx:Tk}{st:Ti}{Q:Unit->Uc->Prop}
def lG{h:Heap}{a b:Ud}{o d:Obj}(ha:h.get? a=Z d)(hd:d.data=.fields vs)(f:h.get? b=Z o)(hn:∀ws,o.data≠.fields ws):b≠a:=fun q=>by
 subst q;rw[ha]at f;cases f;exact hn vs hd
def JK{h:Obj}{hd:Ua}(u:A.frames=Z (env::outer))(G:env.frame=Z L)(stays:B.StaysIn s.heap)(new:B.get? e=Y)(fr:s.heap.FunFrames B (env::outer))
 (t:s.heap.get? e=Z h) (C:h.cls=c/\h.dict=dx) (i:h.data=.fields vs) (v:1<vs.size)
 (q:∀h',Fly B (env::outer) e c dx (Z (rawInt L)) h'->s.heap.UpToSlots h'->Q () { s with heap:=h' }):
 wpAny M A (do let a <- frameOf env;let j <- entryPlaceOf L nx;let b <- EntryCells.newEntry hd a .none (rawInt L) .none j;setField (.ref e) 1 b) Q E s:=by
 have k:e∉(env::outer).filterMap (·.frame):=fun hm=>by
  obtain⟨_,o,I,f⟩:=fr.mem hm;exact lG t i I f rfl
 refine A1 (wpAny_frameOf_fun u fr G fun g so=>A1 (wpAny_entryPlaceOf fun j w=>?_));unfold EntryCells.newEntry newFields;refine A1 (J7 ?_ (w.sizeOk5 _ _ _ _ _));generalize m:({ cls:=.type "traceback",dict:=Y,data:=.fields ([hd,Value.ref L,.none,rawInt L,.none]++(if j.isEmpty then List.replicate 6 Value.none else j)).toArray }:Obj)=n;have x:n.data=.fields ([hd,Value.ref L,.none,rawInt L,.none]++(if j.isEmpty then List.replicate 6 Value.none else j)).toArray:=by rw[<- m]
 have D:g.get? e=Z h:=(so.2.1 e k).trans t;have p:B.StaysIn g:=fun b o d=>(so.2.1 b fun hm=>by rw[(fr.mem hm).1]at d;cases d).trans (stays b o d);have F:(g.push n).get? e=Z h:=A3 n D;refine A1r F i v (q _ ?_ ?_)
 all_goals
  have r:g.objs.size≠e:=A0t (B7 D);have J:=A1i (Obj.mapFields (·.setIfInBounds 1 (Value.ref g.objs.size))) F (Obj.isFreed_of_fields (A0e i _))
  have kp:∀b o,b≠e->g.get? b=Z o->((g.push n).update e (Obj.mapFields (·.setIfInBounds 1 (Value.ref g.objs.size)))).get? b=Z o:=fun b o y d=>by
   rw[Y5 _ _ (U3 y)];exact A3 _ d
 .refine⟨fun b o d=>kp b o (fun z=>by rw[z,new]at d;cases d) (p b o d),new,fr.of_keeps fun b o d f=>?_,?_⟩
  .obtain⟨sl,hs⟩:=so.2.2 b o d;exact⟨_,kp b _ (lG t i d f) hs,rfl⟩
  .refine⟨_,_,J,⟨(Obj.cls_mapFields _ _).trans C.1,(aCp _ _).trans C.2⟩,A0e i _,by simpa using v,g.objs.size,n,_,by simp[v],p.fresh,r,?_,x,by simp⟩;rw[Y5 _ _ (U3 r)];exact C6 g (by rw[<- m];rfl)
 .intro b o d f;obtain⟨sl,hs⟩:=so.2.2 b o d;exact⟨sl,kp b _ (lG t i d f) hs⟩
def GP(h:A.frames=Z (env::outer))(m:env.frame=Z L)(F:Fly B (env::outer) e c dx st s.heap)(n:st=Y\/st=Z .none\/st=Z (rawInt L))
 (q:∀h',Fly B (env::outer) e c dx (Z (rawInt L)) h'->s.heap.UpToSlots h'->Q () { s with heap:=h' }):wpAny M A (noteFrame (.ref e) env) Q E s:=by
 obtain⟨D,vs,i,r,j,t,ht⟩:=id F.tr;unfold noteFrame;simp only[m];rcases n with rfl|rfl|rfl
 .refine A1 (J0 i j (show vs[1]?=Z .none from ht) ?_);rw[B2 (by decide)];exact JK h m F.stays F.new F.frames i r j t q
 .obtain⟨T,x,y,p,v,w,f,g,k⟩:=ht;refine A1 (J0 i j p ?_);rw[A4 (show(Value.ref T != Value.none)=true from by simp)];refine A1 (J0 f g k ?_);rw[B2 (show ¬((Value.none==rawInt L)=true)from by simp[rawInt])];refine A1 (A1r f g (Array.getElem?_eq_some_iff.mp k).1 ?_);have oth:∀b,b≠T->(s.heap.update T (Obj.mapFields (·.setIfInBounds 3 Value.none))).get? b=s.heap.get? b:=fun b a=>Y5 _ _ (U3 a)
  refine JK (s:={ s with heap:=s.heap.update T (Obj.mapFields (·.setIfInBounds 3 Value.none)) }) h m (fun b o a=>(oth b fun z=>by rw[z,v]at a;cases a).trans (F.stays b o a)) F.new
   (F.frames.of_keeps fun b o a d=>⟨o,(oth b (lG f g a d)).trans a,rfl⟩) ((oth e (U3 w)).trans i) r j t fun h' C u=>q h' C fun b o a d=>u b o ((oth b (lG f g a d)).trans a) d
 .obtain⟨T,x,y,p,v,w,f,g,k⟩:=ht;refine A1 (J0 i j p ?_);rw[A4 (show(Value.ref T != Value.none)=true from by simp)];refine A1 (J0 f g k ?_);rw[A4 (show(rawInt L==rawInt L)=true from by simp)];exact B5 (q _ F (.refl _))
def yS{r:Ua}{fo:Tk}(F:Fly B l e c dx (Z r) s.heap)
 (q:∀h',Fly B l e c dx (Z (fo.elim .none fun f=>rawInt f)) h'->s.heap.UpToSlots h'->Q () { s with heap:=h' }):wpAny M A (setFlight (.ref e) fo) Q E s:=by
 obtain⟨t,vs,i,u,j,v,T,y,w,k,m,n,h,g,x⟩:=id F.tr;have p:3<w.size:=(Array.getElem?_eq_some_iff.mp x).1;unfold setFlight;refine A1 (J0 i j k ?_);rw[A4 (show(Value.ref T != Value.none)=true from by simp)];have oth:∀b,b≠T->(s.heap.update T (Obj.mapFields (·.setIfInBounds 3 (fo.elim .none fun f=>rawInt f)))).get? b=s.heap.get? b:=fun b a=>Y5 _ _ (U3 a)
 refine A1r h g p (q _ ⟨fun b o a=>(oth b fun z=>by rw[z,m]at a;cases a).trans (F.stays b o a),F.new,F.frames.of_keeps fun b o a d=>⟨o,(oth b (lG h g a d)).trans a,rfl⟩,
  t,vs,(oth e (U3 n)).trans i,u,j,v,T,_,_,k,m,n,A1i _ h (Obj.isFreed_of_fields (A0e g _)),A0e g _,by simp[p]⟩
  fun b o a d=>⟨o.slots,(oth b (lG h g a d)).trans a⟩)
def aBj(f:A.frames=Z (env::outer))(h:env.frame=Z L)(F:Fly B (env::outer) e c dx st s.heap)(g:st=Y\/st=Z .none\/st=Z (rawInt L))
 (q:∀h',Fly B outer e c dx (Z .none) h'->s.heap.UpToSlots h'->Q () { s with heap:=h' }):wpAny M A (leaving env (.ref e)) Q E s:=by
 unfold leaving;refine A1 (GP f h F g fun m F1 i=>yS (fo:=Y) F1 fun j F2 k=>?_);obtain⟨a,b,⟨_,_,c'⟩,d⟩:=F2;exact q j ⟨a,b,c',d⟩ (i.trans k)
def aBW{X:T1}(a:A.frames=Z (env::outer))(d:env.frame=Z L)(F:Fly B (env::outer) e c dx st s.heap)(b:st=Y\/st=Z .none\/st=Z (rawInt L))
 (q:∀h',Fly B (env::outer) e c dx (Z (rawInt L)) h'->s.heap.UpToSlots h'->X (.ref e) { s with heap:=h' }):notedBy M A env (cameBackBy M A env X) (.ref e) s:=by
 unfold notedBy;refine GP a d F b fun f F1 g=>?_;unfold cameBackBy;obtain⟨n,vs,h,o,i,p,T,r,t,j,u,v,w,x,y⟩:=id F1.tr;refine A1 (J0 h i j ?_);rw[B2 (show ¬((Value.ref T==Value.none)=true)from by simp),d];exact yS (s:={ s with heap:=f }) (fo:=Z L) F1 fun k F2 m=>q k F2 (g.trans m)
end
structure Body(X:Cx):Prop where
 stk:X.stack=X.env::X.outer
 fr:X.env.frame=Z X.env.locals
 ex:X.ex=[]
structure Kp(X:Cx)(H:Hp)(B h:Heap):Prop where
 trk:∀b u o,H b=Z u->h.get? b=Z o->B.get? b=Z o
 ent:∀b o,X.s₀.heap.get? b=Z o->b∉X.fs->(∃o',B.get? b=Z o')/\(X.H₀ b=Y->B.get? b=Z o)
 pin:∀p∈X.pn,B.get? p.1=Z p.2
section
variable{X:Cx}{pins:T2}{σ:St}{H:Hp}{s:Uc}{B h':Heap}
def Inv.up(I:Inv X [] σ H s)(b:Body X)(k:Kp X H B s.heap)(stays:B.StaysIn h')(u:s.heap.UpToSlots h'):Inv X [] σ H { s with heap:=h' }/\Kp X H B h':=by
 have tr:∀a v o,H a=Z v->s.heap.get? a=Z o->h'.get? a=Z o:=fun a v o e q=>stays a o (k.trk a v o e q)
 have cell:∀c v,s.heap.IsCell c v->h'.IsCell c v:=fun c v ⟨o,E,hd⟩=>by
  obtain⟨sl,q⟩:=u c o E fun vs z=>by rw[hd]at z;cases z
  exact⟨_,q,hd⟩
 have f:∀a∈X.fs,∀o,s.heap.get? a=Z o->∃sl,h'.get? a=Z { o with slots:=sl }:=fun a ha o e=>by
  obtain⟨_,j,C,hn⟩:=I.funs.mem ha;rw[e]at C;cases C;exact u a o e hn
 refine⟨⟨I.ok,I.os,I.bare,⟨fun a o e n ha t=>?_,fun a o e n ha t=>?_,I.base.free,fun a o e t=>?_,I.base.tups,I.base.frzs,I.base.tbls⟩,?_,fun x c e=>?_,I.free,I.freeC,fun p y=>?_,fun a v e=>?_,I.len⟩,⟨fun a v o e q=>?_,k.ent,k.pin⟩⟩
 .exact stays a o ((k.ent a o e ha).2 n)
 .obtain⟨sl,g⟩:=I.base.slot a o e n ha t;obtain⟨A,h⟩:=f a ha _ g;exact⟨A,h⟩
 .by_cases ha:a∈X.fs
  .obtain⟨j,g⟩:=I.base.there a o e t;obtain⟨sl,h⟩:=f a ha j g;exact⟨_,h⟩
  .obtain⟨⟨o',q⟩,_⟩:=k.ent a o e ha;exact⟨o',stays a o' q⟩
 .obtain⟨m,hn,F⟩:=I.loc;refine⟨m,u.ns hn,fun i x v g h G=>?_⟩;obtain⟨J,r,l⟩:=F i x v g h G;refine⟨J,r,?_⟩;rcases l with l|⟨L,c,e,z⟩
  .exact .inl l
  .exact .inr ⟨L,c,e,cell c _ z⟩
 .obtain⟨v,z⟩:=I.cell x c e;exact⟨v,cell c v z⟩
 .rw[D8]at y;obtain⟨_,n,ne,M,d⟩:=I.pin p (D4 _ y);exact⟨stays _ _ (k.pin p y),n,ne,M,d⟩
 .exact(I.hok a v e).stay (fun c w hc q=>by
   rcases hc with rfl|hc
   .exact tr c v w e q
   .exact tr c _ w hc q) (fun _ q=>q) fun _ _ q=>q
 .obtain⟨j,D⟩:=(I.hok a v e).there;have:=tr a v j e D;rw[q]at this;cases this;exact k.trk a v o e D
def XS(X:Cx)(EE:St->XK)(ev:Ua)(s:Uc):Prop:=
 ∃e c dx st σ H B,ev=.ref e/\Inv X [] σ H s/\Kp X H B s.heap/\Fly B X.stack e c dx st s.heap/\(st=Y\/st=Z .none\/st=Z (rawInt X.env.locals))/\EE σ c dx H
def XS.unwish(h:XS (X.wish E) EE ev s):XS X EE ev s:=by
 obtain⟨e,c,dx,st,σ,H,B,b,I,k,F,a,q⟩:=h;exact⟨e,c,dx,st,σ,H,B,b,I.unwish,⟨k.trk,k.ent,k.pin⟩,F,a,q⟩
def CX1(P:Uf)(w:World):CXT:=fun outer H s E ev a=>∃e c dx H' B,ev=.ref e/\a.os=s.os/\AllBare a.gens/\Un (frs outer) [] H H' s.heap a.heap/\HOk P w H' a.heap/\Fly B outer e c dx (Z .none) a.heap /\
 (∀b u o,H' b=Z u->a.heap.get? b=Z o->B.get? b=Z o)/\(∀b o,s.heap.get? b=Z o->b∉frs outer->(∃o',B.get? b=Z o')/\(H b=Y->B.get? b=Z o))/\E c dx H'
def Inv.entry(I:Inv X pins σ H s)(bd:Body X){b:Ud}{o:Obj}(e:X.s₀.heap.get? b=Z o)(a:b∉X.fs):b∉frs X.stack/\(∃c,s.heap.get? b=Z c)/\(X.H₀ b=Y->s.heap.get? b=Z o/\H b=Y):=by
 have nx:b∉X.ex:=by rw[bd.ex];simp
 refine⟨fun z=>?_,I.base.there b o e nx,fun n=>⟨I.base.keep b o e n a nx,I.base.free b o e n nx⟩⟩;rcases List.mem_cons.mp (I.stkSub b z)with q|q
 .exact absurd (q▸C4 (B7 e) I.ok.above) (L8 _)
 .exact a q
def aEF{EE:St->XK}(bd:Body X)(I:Inv X pins σ H s)(h:CX1 X.prog X.w X.stack H s (EE σ) ev d):XS X EE ev d:=by
 obtain⟨e,c,dx,H',B,rfl,os,bare,un,hok,F,trk,ent,q⟩:=h;have i:Inv X pins σ H' d:=I.call' os un hok bare fun b z=>absurd z (by simp);refine⟨e,c,dx,Z .none,σ,H',B,rfl,i.pins_of fun p f=>absurd f (by simp),⟨trk,fun b o e j=>?_,fun p f=>?_⟩,F,.inr (.inl rfl),q⟩
 .obtain⟨a,⟨k,l⟩,g⟩:=I.entry bd e j;exact⟨(ent b k l a).1,fun n=>(ent b o (g n).1 a).2 (g n).2⟩
 .obtain⟨a,n,ne,m,_⟩:=I.pin p (D4 _ f);exact(ent p.1 p.2 a fun z=>(List.mem_cons.mp (I.stkSub p.1 z)).elim ne m).2 n
def aEX{EE:St->XK}{e:Ud}{d:Obj}(bd:Body X)(I:Inv X pins σ H s)(i:s.heap.get? e=Z d)(hn:H e=Y)(r:X.s₀.heap.get? e=Y)(g:∀p∈X.pn,p.1≠e)(j:d.data=.fields vs)(t:1<vs.size)(c:vs[1]?=Z .none)
 (q:EE σ d.cls d.dict H):XS X EE (.ref e) s:=by
 have k:e∉frs X.stack:=fun hm=>by
  obtain⟨_,o,v,h⟩:=I.stack.mem hm;exact lG i j v h rfl
 have get:∀b o,b≠e->b∉frs X.stack->s.heap.get? b=Z o->(PySem.W.hideAll s.heap (e::frs X.stack)).get? b=Z o:=fun b o c f w=>PySem.W.hideAll_get _ w fun hm=>(List.mem_cons.mp hm).elim c f;refine⟨e,d.cls,d.dict,Y,σ,H,PySem.W.hideAll s.heap (e::frs X.stack),rfl,I.pins_of fun p g=>absurd g (by simp),⟨fun b u o c f=>?_,fun b o c f=>?_,fun p c=>?_⟩,⟨fun b o c=>PySem.W.of_hideAll _ c,PySem.W.hideAll_none _ A9,?_,d,vs,i,⟨rfl,rfl⟩,j,t,c⟩,.inl rfl,q⟩
 .exact get b o (aW c hn) (fun z=>by rw[I.stkFree b z]at c;cases c) f
 .obtain⟨l,⟨m,x⟩,y⟩:=I.entry bd c f;have ne:b≠e:=fun z=>by rw[z,r]at c;cases c
  exact⟨⟨m,get b m ne l x⟩,fun n=>get b o ne l (y n).1⟩
 .obtain⟨A,n,ne,k,_⟩:=I.pin p (D4 _ c);exact get p.1 p.2 (g p c) (fun z=>(List.mem_cons.mp (I.stkSub p.1 z)).elim ne k) A
 .exact PySem.W.funFrames_hide I.stack fun env hm a ha=>B0 _ (List.mem_filterMap.mpr ⟨env,hm,ha⟩)
def aAh(bd:Body X):PassesOwn (model X.prog X.w) X.A X.env (XS X EE):=by
 rintro ev s ⟨e,c,dx,st,σ,H,B,rfl,I,k,F,a,q⟩;have b:=I.ok.frames;rw[bd.stk]at b F;refine aBW b bd.fr F a fun h' d u=>?_;obtain⟨f,g⟩:=I.up bd k d.stays u;exact⟨e,c,dx,_,σ,H,B,rfl,f,g,by rw[bd.stk];exact d,.inr (.inr rfl),q⟩
end
section
variable{P:Uf}{w:World}{K:Fg}{mg:Str->Ti}{base:Heap}{N:Te}{qual:Str}{scope:Scope}{f:Ud}{cd:Ua}{A:Ug}{outer:Tx Env}{s:Uc}{H:Hp}{E:XK}{CX:CXT}
def NV:Body (nZ CX P w K mg base N qual scope f cd A outer s H E):=⟨rfl,rfl,rfl⟩
def Body.wish(b:Body X)(E:T1):Body (X.wish E):=⟨b.stk,b.fr,b.ex⟩
def aBd{ev:Ua}(h:XS (nZ (CX1 P w) P w K mg base N qual scope f cd A outer s H E) (fun _=>E) ev d):(nZ (CX1 P w) P w K mg base N qual scope f cd A outer s H E).xe ev d:=by
 obtain⟨e,c,dx,st,σ,H',B,rfl,I,k,F,b,q⟩:=h;refine aBj (c:=c) (dx:=dx) (st:=st) (B:=B) (outer:=outer) (L:=s.heap.objs.size) I.ok.frames rfl F b fun h' g u=>?_;obtain⟨a,i⟩:=I.up NV k g.stays u;exact⟨e,c,dx,H',B,rfl,a.os,a.bare,a.base,a.hok,g,i.trk,i.ent,q⟩
def aGH{params:Arguments}{kV doc oc:Ua}{od:Tk}
 {osl:Array (Ti)} {sp:Sp} (lk:K.lookup f=Z ⟨oc,od,.func (PySem.W.fnOf name qual params a scope d kV doc pm an cdv ct),osl⟩) (c:PySem.W.codeIn K cdv qual=true) (S:bC N ps scope)
 (len:∀vs H Q E,sp vs H Q E->vs.length=ps.length)
 (b:∀(A:Ug)(outer:Tx Env)(s:Uc)(H:Hp)(vs:Tf)(Q:VK)(E:XK),eJ k (A.deeper (envOfC qual scope s.heap.objs.size f cdv))->sp vs H Q E->
  ∃t,PSs ((nZ (CX1 P w) P w K mg base N qual scope f cdv A outer s H E).wish (XS (nZ (CX1 P w) P w K mg base N qual scope f cdv A outer s H E) fun _=>E)) a t/\t { nx:=fun _ H'=>Q .non H',rt:=Q } (start N vs) H):
 mY P w K mg base (CX1 P w) (k+1) f (PySem.W.fnOf name qual params a scope d kV doc pm an cdv ct) ps sp:=
 VD lk c S len fun A outer s H vs Q E e h=>by
  obtain⟨t,ht,g⟩:=b A outer s H vs Q E e h;exact⟨t,fun pins i σ H' D I j=>F8 (ht pins i σ H' D (I.wish _) j) (fun _ _ q=>q.unwish) fun _ _ z=>aBd z,g⟩
end
structure aAE(K:Fg)(C:Ud):Prop where
 ga:PySem.W.findIn K (.ref C) "__getattribute__"=Z (Z (.builtin "BaseException.__getattribute__"))
 gh:PySem.W.findIn K (.ref C) "__getattr__"=Z Y
 be:PySem.W.subIn K (.ref C) (.type "BaseException")=Z true
 cl:(PySem.W.clsIn K C).isSome=true
section
variable{prog:Uf}{w:World}{A:Ug}{E:T1}{s:Uc}{K:Fg}{x C:Ud}{ox:Obj}{od:Tz Obj}{name:Str}
def HD{Q:T1}(X:K.In s.heap)(I:PySem.W.InstAt s.heap x ox C od)(c:aAE K C)
 (h:wpAny (model prog w) A.in1 (Builtin.«object.__getattribute__» ⟨[.ref x,.str name tk],[]⟩)
  (fun i j=>match i with|.done (.ret v)=>Q v j|.done _=>False|.again c'=>c'.quiet=true/\codeAny (model prog w) A c' (fun r j=>match r with|.ok (.ret v)=>Q v j|.ok _=>False|.error e=>E e j) j) E s):
 wpAny (model prog w) A (call (.builtin "BaseException.__getattribute__") [.ref x,.str name tk]) Q E s:=by
 have k:=F.entry_bexc_ga;generalize Builtin.«object.__getattribute__»=b at k h;refine wpAny_call (codeAny_call_builtin F.excAttr_ValueError.ga.plain k ?_);have l:builtinKind "BaseException.__getattribute__"=Z .slot:=by decide +kernel
 have a:splitId "BaseException.__getattribute__"=Z ("BaseException","__getattribute__"):=by decide +kernel
 have ha:=F.args_bexc_ga (.ref x) (.str name tk);have m:=I.type (M:=model prog w);have n:=PySem.W.looks_subIn (M:=model prog w) X c.be;obtain⟨o,g,d,t,os⟩:=s;simp only[checkBuiltinCall,l,a];refine A1 ?_;unfold isInstance;refine A1 (m.at (n.at ?_))
 repeat (first|assumption|wp_step)
 refine F8 h (fun i j z=>?_) fun _ _ z=>z;rcases i with(_|_|_|_)|c'
 .exact z
 .exact z
 .exact z
 .exact z
 .exact⟨z.1,A1c z.2 fun r j q=>by cases r with
   |error e=>exact q
   |ok f=>cases f<;>exact q⟩
def RN{fill:Bool}(X:K.In s.heap)(I:PySem.W.InstAt s.heap x ox C od)(c:aAE K C)
 (h:wpAny (model prog w) A.in1 (Builtin.«object.__getattribute__» ⟨[.ref x,.str name tk],[]⟩)
  (fun b a=>match b with|.done (.ret v)=>wpAny (model prog w) A (handedOut v) Q E a|.done _=>False|.again c'=>c'.quiet=true/\codeAny (model prog w) A c' (fun r a=>match r with|.ok (.ret v)=>wpAny (model prog w) A (handedOut v) Q E a|_=>False) a) (fun _ _=>False) s):
 wpAny (model prog w) A (getAttrBy (.ref x) (.str name tk) fill ex) Q E s:=by
 have i:=I.type (M:=model prog w);have j:=PySem.W.looks_findIn (M:=model prog w) X c.ga;have L2:=PySem.W.looks_findIn (M:=model prog w) X c.gh;unfold getAttrBy;refine S5 (A1 (i.here (A1 (j.here ?_))));have d:(Value.builtin "BaseException.__getattribute__"==Value.builtin "object.__getattribute__")=false:=by decide +kernel
 have g:(onTheHeap (Value.ref C)&&Value.builtin "BaseException.__getattribute__"==Value.builtin "object.__getattribute__")=false:=by rw[d];rfl
 dsimp only;rw[g,B2 A7];unfold getAttrByItsOwn hookBefore;rw[A4 (show onTheHeap (Value.ref C)=true from rfl)];refine A1 (L2.here (A1 (wpAny_attempt (S5 ?_))));unfold callGetattribute;rw[B2 (show ¬((ex&&onTheHeap (Value.builtin "BaseException.__getattribute__"))=true)from by cases ex<;>exact A7)];unfold boundAndCalled;rw[F.excAttr_ValueError.ga.bind (.ref x)];refine A1 (B5 ?_);refine F8 (HD (tk:=tk) (name:=name) (E:=fun _ _=>False) (Q:=fun v a=>wpAny (model prog w) A (handedOut v) Q E a) X I c ?_) (fun v a z=>z) fun _ _ z=>z.elim;refine F8 h (fun b a z=>?_) fun _ _ z=>z;rcases b with(_|_|_|_)|c'
 .exact z
 .exact z
 .exact z
 .exact z
 .exact⟨z.1,A1c z.2 fun r a q=>by cases r with
   |error e=>exact q
   |ok f=>cases f<;>exact q⟩
def UL{Q:Ti->Uc->Prop}(X:K.In s.heap)(I:PySem.W.InstAt s.heap x ox C od)(c:aAE K C)(ha:PySem.W.findIn K (.ref C) "__class__"=Z (Z (.builtin "object.__class__")))
 (hn:PySem.W.specialIn K (.builtin "object.__class__") "__get__"=Z (Z (.builtin "getset_descriptor.__get__"))) (htk:PySem.W.takesIn K (.builtin "object.__class__")=Z true) (hm:PySem.W.mroIn K C (.type "object")=Z true)
 (h:Q (Z (.ref C)) { s with toks:=s.toks+1 }):wpAny (model prog w) A (getAttr? (.ref x) "__class__") Q E s:=by
 have a:PySem.W.findObj K C od "__class__"=Z (.bind (.builtin "getset_descriptor.__get__") (.builtin "object.__class__")):=by
  obtain⟨i,b⟩:=Option.isSome_iff_exists.mp c.cl;unfold PySem.W.findObj;rw[b,A2,ha,A2];simp[hn,htk]
 unfold getAttr? getAttrBy?;refine A1 (wpAny_mkText (A1 (wpAny_attempt (RN (s:={ s with toks:=s.toks+1 }) X I c ?_))));obtain⟨j,g,d,t,os⟩:=s;have e:=I.type (M:=model prog w);have f:=PySem.W.looks_find (M:=model prog w) X I a;refine A1 (B5 (A1 (B5 (A1 (e.at (A1 (f.at ?_)))))));show wpAny _ _ (Builtin.ObjectAttr.bindTo (.builtin "getset_descriptor.__get__") (.builtin "object.__class__") (.ref x) (.ref C)) _ _ _;unfold Builtin.ObjectAttr.bindTo;refine A1 (S5 (wpAny_call (PySem.W.class_get (ox:=ox) (od:=od) X I hm ?_)));refine B5 ?_;show wpAny _ _ (handedOut (.ref C)) _ _ _;exact B5 (B5 h)
def XU(c:aAE K C)(ha:PySem.W.findIn K (.ref C) "__class__"=Z (Z (.builtin "object.__class__")))
 (hn:PySem.W.specialIn K (.builtin "object.__class__") "__get__"=Z (Z (.builtin "getset_descriptor.__get__"))) (htk:PySem.W.takesIn K (.builtin "object.__class__")=Z true) (hm:PySem.W.mroIn K C (.type "object")=Z true):
 PySem.W.KitX K (.ref x) (.ref C) (fun h=>∃ox od,PySem.W.InstAt h x ox C od) where
 ty:=fun _ _ _ ⟨_,_,I⟩=>I.type
 it:=fun _ _ X _=>by
  have hc:=c.cl;unfold PySem.W.clsIn at hc;split at hc
  .rename_i c' d' cd' sl' ho;intro A' Q' E' s' k q;unfold isType loadHead;exact A1 (wpAny_loadPart (k _ _ (X _ _ ho)) (B5 q))
  .cases hc
 ne:=fun h tp dd its n sl X htp=>by
  have hc:=c.cl;refine Bool.eq_false_iff.mpr fun q=>?_;have e:C=tp:=Value.ref.inj (beq_iff_eq.mp q);subst e;unfold PySem.W.clsIn at hc;split at hc
  .rename_i c' d' cd' sl' ho;have z:=(X _ _ ho).symm.trans htp;cases z
  .cases hc
 ca:=fun X ⟨_,_,I⟩ k=>UL X I c ha hn htk hm k
end
section
variable{X:Cx}{pins:T2}{σ:St}{H:Hp}{s:Uc}
noncomputable def EV(sp:Sp)(EE:St->XK)(t:TA):TE:=fun σ H Q=>t σ H fun vs a=>sp vs a Q (EE σ)
structure rR(P:Uf)(w:World)(K:Fg)(mg:Str->Ti)(base:Heap)(k:Nat)(x:Str)(ps:Te)(sp:Sp):Prop where
 ex:∃f fd,mY P w K mg base (CX1 P w) k f fd ps sp/\mg x=Z (.ref f)/\PySem.W.keepIn K (.ref f)=true/\Binds K fd ps []
structure XOk(X:Cx)(EE:St->XK):Prop where
 bd:Body X
 pass:∀ev s,XS X EE ev s->X.xe ev s
 own:PassesOwn (model X.prog X.w) X.A X.env X.xe
def XOk.of{X:Cx}(bd:Body X)(EE:St->XK):XOk (X.wish (XS X EE)) EE:=⟨bd.wish _,fun _ _ h=>h.unwish,aAh bd⟩
def aDv{EE:St->XK}(ok:XOk X EE)(F:mY X.prog X.w X.K X.mg X.base (CX1 X.prog X.w) k f fd ps sp)(c:eJ k X.A)(d:Binds X.K fd ps [])
 (I:Inv X pins σ H s) (r:bH vs us) (h:sp vs H Q (EE σ)):wpAny (model X.prog X.w) X.A (call (.ref f) us) (EP X pins σ Q) X.xe s:=by
 have g:us.length=ps.length:=by rw[<- r.length];exact F.len _ _ _ _ h
 have b:=d s us I.kIn (by rw[D8];exact g);rw[D8]at b;refine wpAny_call (A1c (F.run X.A X.stack s H ⟨us,[]⟩ us vs Q (EE σ) c I.env0 b r h) fun r j a=>?_);cases r with
 |error e=>exact ok.pass _ _ (aEF ok.bd I a)
 |ok i=>
  cases i with
  |ret u=>exact I.after a
  |next=>exact False.elim a
  |brk=>exact False.elim a
  |cont=>exact False.elim a
def aBG{EE:St->XK}{k:Nat}{x:Str}{ps:Te}{sp:Sp}{p pos:Pos}{e:Ue}{es:Ta}{t:TA}(ok:XOk X EE)(C:rR X.prog X.w X.K X.mg X.base k x ps sp)(g:eJ k X.A)(ha:PA X (e::es) t)(i:Gl X x)
 (a:(x==("__debug__":Str))=false) (j:starEach (e::es) X.env=(false,eval e X.env)::starEach es X.env) (c:(backTo pos (starEach es X.env)).any (·.1)=false):
 PE X (.Call (.Name x p) (e::es) [] pos) (EV sp EE t):=by
 intro pins s σ H Q I h;obtain⟨f,fd,F,m,kp,b⟩:=C.ex;refine Y8 (vK I i m ?_ a);exact PySem.W.callWith_K (h₀:=X.base) I.ok.mod.kin kp (thn (ha pos pins s σ H _ I h) fun us s1 ⟨vs,l,d,r,q⟩=>⟨d.kIn,aDv ok F g b d r q⟩) j c
noncomputable abbrev bmV:T7:=[.type "ValueError",.type "Exception",.type "BaseException",.type "object"]
def aCu(X:K.In h)(q:PySem.W.excIn K C a b=true):
 ∃bm N nm c bs hd sn sub ab col dd k0 k1 k2 k3 k5 mN,h.get? C=Z (excClassObj nm c C N bs bm hd sn sub ab col dd k0 k1 k2 k3 k5 b)/\h.Ns N mN/\mN "__init__"=Y/\OwnTail h a bm:=by
 unfold PySem.W.excIn at q;split at q
 case h_2=>cases q
 case h_1 dd e sl lk=>
  split at q
  case h_2=>cases q
  case h_1 p bm k0 k1 k2 k3 n k5 hm hs=>
   simp only[Bool.and_eq_true,beq_iff_eq,Bool.not_eq_true']at q;obtain⟨⟨⟨⟨⟨f,g⟩,i⟩,j⟩,d⟩,k⟩:=q;subst f g;cases e with
   |mk nm bs m ns c hd sn sub ab col o=>
    cases hm;cases i
    have es:sl=#[k0,k1,k2,k3,Z (.builtin n),k5]:=by
     cases sl with
     |mk l=>exact C9 Array.mk hs
    cases es;exact⟨bm,ns,nm,c,bs,hd,sn,sub,ab,col,dd,k0,k1,k2,k3,k5,_,X _ _ lk,.of_isNs (PySem.W.isNs_of_in X d),PySem.W.nsMap_none_of_in X d k,PySem.W.tail_of_in X j⟩
def GV(EE:St->XK)(C:Ud):TS:=fun _ σ H=>EE σ (.ref C) Y H
def SV{cpos:Pos}(ok:XOk X EE)(f:X.calm=true)(hm:X.mg x=Z (.ref C))(q:PySem.W.excIn X.K C bmV "ValueError.__new__"=true)(g:Gl X x)
 (a:(x==("__debug__":Str))=false):PS X (.Raise (Z (.Call (.Name x d) [] [] cpos)) Y pos) (GV EE C):=by
 intro pins s σ H D I h;obtain⟨bm,N,nm,i,bs,hd,sn,sub,ab,col,dd,k0,k1,k2,k3,k5,mN,j,k,l,ot⟩:=aCu I.kIn q
 refine wpAny_Raise_call_subT (C:=C) (nm:=nm) (q:=i) (N:=N) (bs:=bs) (bm:=bm) (hdct:=hd) (sn:=sn) (sub:=sub) (ab:=ab) (col:=col) (dd:=dd) (k0:=k0) (k1:=k1) (k2:=k2) (k3:=k3) (k5:=k5) (mN:=mN)
  F.excBase_ValueError (ot.hasType F.excBase_ValueError.hasBase) (I.ok.hd f) rfl l (vK I g hm ⟨rfl,evalArgs_empty ⟨rfl,E9 _,j,k,ot,fun h' e mk=>ok.pass _ _ ?_⟩⟩ a)
 obtain⟨t,m,_,_⟩:=mk.there;have n:Inv X pins σ H { s with heap:=h' }:=I.kept mk.keeps
 have hn:H e=Y:=by
  cases z:H e with
  |none=>rfl
  |some u=>
   obtain⟨o,b⟩:=(I.hok e u z).there;rw[mk.new]at b;cases b
 refine aEX ok.bd n m hn ?_ (fun p r z=>?_) rfl (show 1<6 by decide) rfl h
 .cases z:X.s₀.heap.get? e with
  |none=>rfl
  |some o=>
   obtain⟨v,c⟩:=I.base.there e o z (by rw[ok.bd.ex];simp);rw[mk.new]at c;cases c
 .have:=(I.pin p (D4 _ r)).1;rw[z,mk.new]at this;cases this
end
def hCx(X:Cx)(e:Ud):Cx:={ X with A:=X.A.mark (Z (.ref e)),calm:=false,xe:=fun _ _=>False }
noncomputable def yA(X:Cx)(pins:T2):Cx:={ X with pn:=X.pn++pins }
section
variable{X:Cx}{pins:T2}{σ:St}{H:Hp}{s:Uc}
def Inv.toH(I:Inv X pins σ H s)(e:Ud):Inv (hCx X e) pins σ H s:=
 ⟨⟨I.ok.mod,I.ok.kind,I.ok.glob,I.ok.blt,I.ok.above,I.ok.inj,I.ok.has,I.ok.cab,fun z=>(by cases z),I.ok.frames,I.ok.stk,I.ok.exf,I.ok.bs,I.ok.bsz,I.ok.noex,I.ok.exfs,I.ok.funs,I.ok.frf⟩,I.os,I.bare,I.base,I.loc,I.cell,I.free,I.freeC,I.pin,I.hok,I.len⟩
def Inv.ofH(I:Inv (hCx X e) pins σ H s)(ok:X.Ok):Inv X pins σ H s:=⟨ok,I.os,I.bare,I.base,I.loc,I.cell,I.free,I.freeC,I.pin,I.hok,I.len⟩
def Inv.toP(I:Inv X pins σ H s):Inv (yA X pins) [] σ H s:=
 ⟨⟨I.ok.mod,I.ok.kind,I.ok.glob,I.ok.blt,I.ok.above,I.ok.inj,I.ok.has,I.ok.cab,I.ok.hd,I.ok.frames,I.ok.stk,I.ok.exf,I.ok.bs,I.ok.bsz,I.ok.noex,I.ok.exfs,I.ok.funs,I.ok.frf⟩,I.os,I.bare,I.base,I.loc,I.cell,I.free,I.freeC,fun p a=>I.pin p (by rw[D8]at a;exact a),I.hok,I.len⟩
def Inv.ofP(I:Inv (yA X pins) [] σ H s)(ok:X.Ok):Inv X pins σ H s:=⟨ok,I.os,I.bare,I.base,I.loc,I.cell,I.free,I.freeC,fun p a=>I.pin p (by rw[D8];exact a),I.hok,I.len⟩
def Inv.track{e:Ud}{a:Obj}(I:Inv X pins σ H s)(d:s.heap.get? e=Z a)(f:a.data=.fields vs)(hn:H e=Y)(j:X.s₀.heap.get? e=Y)(l:∀p∈X.pn++pins,p.1≠e):
 Inv X pins σ (upd H e (.ext (II e a.cls a.dict false))) s:=by
 have ne:∀b u,H b=Z u->b≠e:=fun b u z=>aW z hn;refine⟨I.ok,I.os,I.bare,⟨I.base.keep,I.base.slot,fun b o q n r=>?_,I.base.there,fun b xs q=>?_,fun b o u q=>?_,fun b ps q=>?_⟩,I.loc,I.cell,?_,fun x c q=>?_,fun p h=>?_,fun b u q=>?_,I.len⟩
 .rw[aU (fun z=>by rw[z,j]at q;cases q)];exact I.base.free b o q n r
 .have:=I.base.tups b xs q;rw[aU (ne _ _ this)];exact this
 .have:=I.base.frzs b o u q;rw[aU (ne _ _ this)];exact this
 .obtain⟨more,this⟩:=I.base.tbls b ps q;exact⟨more,by rw[aU (ne _ _ this)];exact this⟩
 .obtain⟨m,⟨o,es,ep,g,hd,_⟩,_⟩:=I.loc;rw[aU (lG d f g fun ws z=>by rw[hd]at z;cases z)];exact I.free
 .obtain⟨v,o,g,hd⟩:=I.cell x c q;rw[aU (lG d f g fun ws z=>by rw[hd]at z;cases z)];exact I.freeC x c q
 .obtain⟨t,w,y⟩:=I.pin p h;exact⟨t,by rw[aU (l p h)];exact w,y⟩
 .by_cases i:b=e
  .subst i;rw[bA]at q;cases q;exact⟨⟨a,vs,d,rfl,rfl,f,fun z=>by cases z⟩,⟨a,d⟩,fun C D ⟨o,ws,A,B⟩ k=>⟨o,ws,k o A,B⟩⟩
  .rw[aU i]at q;exact(I.hok b u q).stay (fun _ _ _ z=>z) (fun c z=>by rw[aU (ne _ _ z)];exact z) fun c xs z=>by rw[aU (ne _ _ z)];exact z
def rM{i:Nat}{x:Str}{Q:Unit->Uc->Prop}(I:Inv X pins σ H s)(G:X.N.Nodup)(hi:X.N[i]?=Z x)(J:X.env.scope.names.lookup x=Z .local)
 (h:∀C,Inv X pins (σ.set i Y) H C->Q () C):wpAny M A (do bindName X.env x .none;unbindBehindTheSuite X.env x pos) Q E s:=by
 obtain⟨m,hn,L⟩:=id I.loc;have g:(X.env.scope.kind==.class || (X.env.scope.kind==.module&&X.env.locals != X.env.globals))=false:=by rw[I.ok.kind];rfl
 have l:i<σ.length:=by rw[I.len];exact(List.getElem?_eq_some_iff.mp hi).1
 obtain⟨oL,_,_,O,_⟩:=id hn;refine wpAny_nameGoes_keeps J hn g fun h' v w hs=>h _ ?_;have a:∀b o,X.s₀.heap.get? b=Z o->b≠X.env.locals:=fun b o q=>C8 (C4 (B7 q) I.ok.above);refine⟨I.ok,I.os,I.bare,⟨fun b o q n B r=>(hs.2 b (a b o q)).trans (I.base.keep b o q n B r),fun b o q n B r=>?_,I.base.free,fun b o q r=>?_,I.base.tups,I.base.frzs,I.base.tbls⟩,⟨_,w,fun j y P f t R=>?_⟩,fun y c q=>?_,I.free,I.freeC,fun p S=>?_,fun b u q=>?_,by simpa using I.len⟩
 .obtain⟨sl,f⟩:=I.base.slot b o q n B r;exact⟨sl,(hs.2 b (a b o q)).trans f⟩
 .obtain⟨o',f⟩:=I.base.there b o q r;exact⟨o',(hs.2 b (a b o q)).trans f⟩
 .have D:j≠i:=fun z=>by
   subst z;rw[E2 l]at t;cases t
  rw[D5 (U3 D)]at t;obtain⟨T,U,z⟩:=L j y P f t R;refine⟨T,U,?_⟩;rcases z with⟨k,e⟩|⟨k,c,e,z⟩
  .have:y≠x:=fun e=>D (zG G f (e▸hi));exact .inl ⟨k,by simp[this,e]⟩
  .exact .inr ⟨k,c,e,z.sameBut hs (I.cne y c e)⟩
 .obtain⟨F,z⟩:=I.cell y c q;exact⟨F,z.sameBut hs (I.cne y c q)⟩
 .obtain⟨e,n,ne,V,d⟩:=I.pin p S;exact⟨(hs.2 p.1 ne).trans e,n,ne,V,d⟩
 .refine(I.hok b u q).stay (fun c F hc z=>(hs.2 c ?_).trans z) (fun _ z=>z) fun _ _ z=>z;rintro rfl;rcases hc with rfl|hc
  .rw[I.free]at q;cases q
  .rw[I.free]at hc;cases hc
structure HR where
 c:Ua
 n:Tj
 t:TS
def unbN:Tj->St->St
 |none,σ=>σ
 |some i,σ=>σ.set i Y
def setN:Tj->St->V->St
 |none,σ,_=>σ
 |some i,σ,v=>σ.set i (Z v)
def aAH(D:Ends)(n:Tj):Ends:={ nx:=fun σ H=>D.nx (unbN n σ) H,rt:=D.rt,bk:=fun σ H=>D.bk (unbN n σ) H,ct:=fun σ H=>D.ct (unbN n σ) H }
def tHs(K:Fg)(D:Ends):Tx HR->St->XK
 |[],_,_,_,_=>False
 |h::r,σ,c,dx,H=>∃b,PySem.W.exmOne K c h.c=Z b/\(if b=true then ∀e,H e=Y->h.t (aAH D h.n) (setN h.n σ (.ref e)) (upd H e (.ext (II e c dx false)))else tHs K D r σ c dx H)
def ZH(X:Cx)(hs:Tx ExceptHandler)(rs:Tx HR):Prop:=∀(pins:T2)(D:Ends)(e:Ud)(c:Ua)(dx:Tk)(σ:St)(H:Hp)(s:Uc)(B:Heap)(E:T1),X.Ok->Inv (yA X pins) [] σ H s->Kp (yA X pins) H B s.heap->
 Fly B X.stack e c dx (Z .none) s.heap->tHs X.K D rs σ c dx H->wpAny (model X.prog X.w) X.A (handleBy (.ref e) X.env hs) (SP X pins D) E s
def aFA:ZH X [] []:=fun _ _ _ _ _ _ _ _ _ _ _ _ _ _ h=>h.elim
def UY(X:Cx)(x:Str)(c:Ua):Prop:=X.mg x=Z c\/(X.mg x=Y/\bootBuiltins x=Z c/\x≠"__name__")
def aFn{Q:T1}(n:UY X x c)(I:Inv X pins σ H s)(a:Gl X x)(hd:(x==("__debug__":Str))=false)(h:Q c s):
 wpAny (model X.prog X.w) X.A (eval (.Name x pos) X.env) Q E s:=by
 rcases n with m|⟨m,b,z⟩
 .exact vK I a m h hd
 .exact jD I a m b h z hd
def Fly.fresh{B h:Heap}{st:_}(bd:Body X)(I:Inv X pins σ H s)(k:Kp X H B s.heap)(F:Fly B X.stack e c dx st s.heap):H e=Y/\X.s₀.heap.get? e=Y/\∀p∈X.pn,p.1≠e:=by
 obtain⟨d,vs,a,_,_,f⟩:=F.obj;refine⟨?_,?_,fun p g z=>?_⟩
 .cases z:H e with
  |none=>rfl
  |some u=>
   have:=k.trk e u d z a;rw[F.new]at this;cases this
 .cases z:X.s₀.heap.get? e with
  |none=>rfl
  |some o=>
   by_cases b:e∈X.fs
   .obtain⟨_,j,i,hn⟩:=I.funs.mem b;exact absurd rfl (lG a f i hn)
   .obtain⟨⟨o',q⟩,_⟩:=k.ent e o z b;rw[F.new]at q;cases q
 .have:=k.pin p g;rw[z,F.new]at this;cases this
def aHR(X:Cx):Tz Str->Tj->Prop
 |none,none=>True
 |some n,some i=>X.N.Nodup/\X.N[i]?=Z n/\X.env.scope.names.lookup n=Z .local
 |_,_=>False
def aBq{pos:Pos}{l:Stmt}{g:Tb}{h:HR}(bd:Body X)(hc:UY X x h.c)(hg:Gl X x)(hd:(x==("__debug__":Str))=false)
 (hn:aHR X nm h.n)
 (hS:∀e,PSs (hCx X e) (l::g) h.t) (hR:ZH X hs rs):ZH X (.ExceptHandler (Z (.Name x np)) nm (l::g) pos::hs) (h::rs):=by
 intro pins D e c dx σ H s B E ok I k F y;obtain⟨b,hb,y⟩:=y;have M:Body (yA X pins):=⟨bd.stk,bd.fr,bd.ex⟩;obtain⟨oe,vs,he,N,_,hv⟩:=F.obj;have LT:PySem.W.Looks (model X.prog X.w) s.heap (typeOf (.ref e)) c:=N▸(PySem.W.Looks.ld he).andThen .now;have IH:=(I.ofP ok).toH e;have hA:(hCx X e).A=X.A.mark (Z (.ref e)):=rfl;refine wpAny_handleBy_cons (codeAny_handlers_test (aFn (X:=hCx X e) hc IH hg hd ?_)) (by intro z;cases z);refine(PySem.W.exm_one IH.kIn LT hb).here ?_;cases b with
 |false=>exact hR pins D e c dx σ H s B E ok I k F y
 |true=>
  rw[A4 rfl]at y;have V:Fly B (yA X pins).stack e c dx (Z .none) s.heap:=F
  have go:∀(P:Uc->Prop),(∀G,Inv X pins σ (upd H e (.ext (II e c dx false))) G->P G)->wpAny (model X.prog X.w) (X.A.mark (Z (.ref e))) (setFlight (.ref e) Y) (fun _ s1=>P s1) (notedBy (model X.prog X.w) (X.A.mark (Z (.ref e))) X.env fun x G=>cameBackBy (model X.prog X.w) X.A X.env E x G) s:=fun P hP=>by
   refine yS (fo:=Y) V fun h1 F1 u1=>hP _ ?_;obtain⟨o,k1⟩:=I.up M k F1.stays u1;obtain⟨n1,n2,n3⟩:=Fly.fresh (s:={ s with heap:=h1 }) (h:=h1) M o k1 F1;obtain⟨a0,a1,O,Q,R,S⟩:=F1.obj;have J:=Inv.track o O S n1 n2 fun p hp=>n3 p (by rw[D8]at hp;exact hp);rw[Q,R]at J;exact J.ofP ok
  have T:H e=Y:=(Fly.fresh (h:=s.heap) M I k V).1;have L:=y e T;cases nm with
  |none=>
   cases j:h.n with
   |some i=>rw[j]at hn;exact False.elim hn
   |none=>
    rw[j]at L;refine codeAny_handlers_suite (go _ fun s1 o=>?_);refine F8 (hS e pins s1 σ _ (aAH D Y) (o.toH e) L) (fun f s2 z=>?_) fun _ _ z=>z.elim;cases f with
    |next=>obtain⟨a,H',d,q⟩:=z;exact⟨a,H',d.ofH ok,q⟩
    |brk=>obtain⟨a,H',d,q⟩:=z;exact⟨a,H',d.ofH ok,q⟩
    |cont=>obtain⟨a,H',d,q⟩:=z;exact⟨a,H',d.ofH ok,q⟩
    |ret u=>obtain⟨v,a,H',d,r,q⟩:=z;exact⟨v,a,H',d.ofH ok,r,q⟩
  |some n=>
   cases j:h.n with
   |none=>rw[j]at hn;exact False.elim hn
   |some i=>
    rw[j]at hn L;obtain⟨nd,hi,lo⟩:=hn;refine codeAny_handlers_suite_as (go _ fun s1 o=>?_);refine AR (X:=X) o nd hi (.inl lo) (v:=.ref e) rfl (fun s2 J=>?_) (.inr lo);refine F8 (hS e pins s2 _ _ (aAH D (Z i)) (J.toH e) L) (fun f s3 z=>?_) fun _ _ z=>z.elim;show wpAny _ _ _ (fun _ C=>SP X pins D f C) E s3;cases f with
    |next=>obtain⟨a,H',d,q⟩:=z;exact rM (d.ofH ok) nd hi lo fun U m=>⟨_,H',m,q⟩
    |brk=>obtain⟨a,H',d,q⟩:=z;exact rM (d.ofH ok) nd hi lo fun U m=>⟨_,H',m,q⟩
    |cont=>obtain⟨a,H',d,q⟩:=z;exact rM (d.ofH ok) nd hi lo fun U m=>⟨_,H',m,q⟩
    |ret u=>obtain⟨v,a,H',d,r,q⟩:=z;exact rM (d.ofH ok) nd hi lo fun U m=>⟨v,_,H',m,r,q⟩
def aET(K:Fg)(tb:(St->XK)->TS)(rs:Tx HR):TS:=fun D σ H=>tb (tHs K D rs) D σ H
def aGg{b:Tb}{h₀:ExceptHandler}{hs:Tx ExceptHandler}{pos:Pos}{tb:(St->XK)->TS}(bd:Body X)
 (n:∀pins EE,PSs ((yA X pins).wish (XS (yA X pins) EE)) b (tb EE)) (o:ZH X (h₀::hs) rs):PS X (.Try b (h₀::hs) [] [] pos) (aET X.K tb rs):=by
 intro pins s σ H D I h;have i:Body (yA X pins):=⟨bd.stk,bd.fr,bd.ex⟩;refine wpAny_Try_except (F8 (n pins (tHs X.K D rs) [] s σ H D (I.toP.wish _) h) (fun f s1 z=>?_) fun ev s1 z=>?_)
 .cases f with
  |next=>obtain⟨a,H',d,q⟩:=z;exact wpAny_execs_nil ⟨a,H',d.unwish.ofP I.ok,q⟩
  |brk=>obtain⟨a,H',d,q⟩:=z;exact⟨a,H',d.unwish.ofP I.ok,q⟩
  |cont=>obtain⟨a,H',d,q⟩:=z;exact⟨a,H',d.unwish.ofP I.ok,q⟩
  |ret u=>obtain⟨v,a,H',d,r,q⟩:=z;exact⟨v,a,H',d.unwish.ofP I.ok,r,q⟩
 .obtain⟨e,c,dx,st,j,p,B,rfl,l,t,F1,k,q⟩:=z;have m:=l.ok.frames;have g:=F1;rw[i.stk]at g m;refine GP m i.fr g k fun w F2 x=>yS (s:={ s1 with heap:=w }) (fo:=Y) F2 fun G F3 y=>?_;obtain⟨A,C⟩:=l.up i t F2.stays x;obtain⟨E,F⟩:=A.up i C F3.stays y;exact o pins D e c dx j p _ B _ I.ok E F (by rw[bd.stk];exact F3) q
end
structure Exc where
 nm:Str
 fs:Tw
inductive Rs where
 |v (x:CD)|x (e:Exc)
inductive aIu where
 |o (o:Out)|xc (γ:Ga) (e:Exc)
abbrev EX:=Ga->Sto->Option (Rs×Sto)
abbrev AX:=Ga->Sto->Option ((List CD ⊕ Exc)×Sto)
abbrev SFX:=Ga->Sto->Tz (aIu×Sto)
abbrev FX:=T8->Sto->Tz (Rs×Sto)
section
variable(K:Fg)
def ExR(W:Wd)(ex:Exc)(c:Ua)(dx:Tk):Prop:=c=.ref (eU K ex.nm)/\HU K W dx ex.fs
def aEo(E:XK)(Q:VK)(W:Wd)(H:Hp):Rs->Prop
 |.v x=>∀v,dI K W x v->Q v H
 |.x ex=>∀c dx,ExR K W ex c dx->E c dx H
def SEX(EE:St->XK)(t:TE)(f:EX):Prop:=∀a M r M',f a M=Z (r,M')->∀(W:Wd)(H:Hp)(σ:St)(Q:VK),Good K W M H->dA K W a σ->(∀W' H',W.Ext W'->Good K W' M' H'->aEo K (EE σ) Q W' H' r)->t σ H Q
def aHW(E:XK)(Q:Tf->Hp->Prop)(W:Wd)(H:Hp):T8 ⊕ Exc->Prop
 |.inl xs=>∀vs,bK K W xs vs->Q vs H
 |.inr ex=>∀c dx,ExR K W ex c dx->E c dx H
def SAX(EE:St->XK)(t:TA)(f:AX):Prop:=∀a M r M',f a M=Z (r,M')->∀(W:Wd)(H:Hp)(σ:St)(Q:Tf->Hp->Prop),Good K W M H->dA K W a σ->(∀W' H',W.Ext W'->Good K W' M' H'->aHW K (EE σ) Q W' H' r)->t σ H Q
def aFV(EE:St->XK)(D:Ends)(W:Wd)(H:Hp):aIu->Prop
 |.o o=>aAD K D W H o
 |.xc a ex=>∀σ c dx,dA K W a σ->ExR K W ex c dx->EE σ c dx H
def SSX(EE:St->XK)(t:TS)(f:SFX):Prop:=∀a M o M',f a M=Z (o,M')->∀(W:Wd)(H:Hp)(σ:St)(D:Ends),Good K W M H->dA K W a σ->(∀W' H',W.Ext W'->Good K W' M' H'->aFV K EE D W' H' o)->t D σ H
def spX(f:FX):Sp:=fun vs H Q E=>∃xs M W r M',Good K W M H/\bK K W xs vs/\f xs M=Z (r,M')/\∀W' H',W.Ext W'->Good K W' M' H'->aEo K E Q W' H' r
end
def liE(f:EF):EX:=fun a M=>(f a M).bind fun r=>Z (.v r.1,r.2)
def liA(f:AF):AX:=fun a M=>(f a M).bind fun r=>Z (.inl r.1,r.2)
def liS(f:SF):SFX:=fun a M=>(f a M).bind fun r=>Z (.o r.1,r.2)
def xCons(f:EX)(g:AX):AX:=fun a M=>(f a M).bind fun r=>match r.1 with
 |.x e=>Z (.inr e,r.2)
 |.v x=>(g a r.2).bind fun q=>match q.1 with
  |.inr e=>Z (.inr e,q.2)
  |.inl xs=>Z (.inl (x::xs),q.2)
def aIB(f:EX)(k:CD->Sto->Tz (Rs×Sto)):EX:=fun a M=>(f a M).bind fun r=>match r.1 with
 |.x e=>Z (.x e,r.2)
 |.v x=>k x r.2
def aAf(f:AX)(k:T8->Sto->Tz (Rs×Sto)):EX:=fun a M=>(f a M).bind fun r=>match r.1 with
 |.inr e=>Z (.x e,r.2)
 |.inl xs=>k xs r.2
def KN(h:FX)(f:AX):EX:=aAf f h
def CU(f g:SFX):SFX:=fun b M=>(f b M).bind fun r=>match r.1 with
 |.o (.nx a)=>g a r.2
 |o=>Z (o,r.2)
def aHV(f:EX):SFX:=fun a M=>(f a M).bind fun r=>match r.1 with
 |.x e=>Z (.xc a e,r.2)
 |.v x=>Z (.o (.rt x),r.2)
def BA(f:EX):SFX:=fun a M=>(f a M).bind fun r=>match r.1 with
 |.x e=>Z (.xc a e,r.2)
 |.v _=>Z (.o (.nx a),r.2)
def aIA(f:EX)(g:GF):SFX:=fun a M=>(f a M).bind fun r=>match r.1 with
 |.x e=>Z (.xc a e,r.2)
 |.v x=>(g x a r.2).bind fun q=>Z (.o (.nx q.1),q.2)
noncomputable def SX(c:TF)(f g:SFX):SFX:=fun a M=>(c a M).bind fun r=>if r.1=true then f a r.2 else g a r.2
def EG(nm:Str):SFX:=fun a M=>Z (.xc a ⟨nm,[]⟩,M)
def fnX(ps N:Nat)(b:SFX):FX:=fun xs M=>if xs.length=ps then(b (xs.map Z++List.replicate (N-xs.length) Y) M).bind fun r=>match r.1 with
 |.o (.rt x)=>Z (.v x,r.2)
 |.o (.nx _)=>Z (.v (.d .none),r.2)
 |.xc _ e=>Z (.x e,r.2)
 |_=>Y else Y
def ZQ:Tj->Ga->Ga
 |none,a=>a
 |some i,a=>a.set i Y
def setG:Tj->Ga->CD->Ga
 |none,a,_=>a
 |some i,a,x=>a.set i (Z x)
def aHn(n:Tj):Out->Out
 |.nx a=>.nx (ZQ n a)
 |.bk a=>.bk (ZQ n a)
 |.ct a=>.ct (ZQ n a)
 |.rt x=>.rt x
structure HMi where
 tab:Tx (Str×Bool)
 n:Tj
 f:SF
def NL:Tx HMi->Ga->Exc->Sto->Tz (Out×Sto)
 |[],_,_,_=>Y
 |h::r,a,ex,M=>match h.tab.lookup ex.nm with
  |some true=>(h.f (setG h.n a (.c M.length)) (M++[.exc false ex.nm ex.fs])).bind fun q=>Z (aHn h.n q.1,q.2)
  |some false=>NL r a ex M
  |none=>Y
def LO(b:SFX)(hs:Tx HMi):SF:=fun c M=>(b c M).bind fun r=>match r.1 with
 |.o o=>Z (o,r.2)
 |.xc a ex=>NL hs a ex r.2
section
variable{K:Fg}{EE:St->XK}{ta tb:TE}{tA:TA}{t u:TS}{f g:EX}{fa:AX}{p q:SFX}{tt:TT}{ft:TF}{tg:TG}{hg:GF}
def aHy{f:AF}(a:SA K tA f):SAX K EE tA (liA f):=by
 intro i M r M' h W H σ Q G R k;obtain⟨⟨x,M1⟩,b,h⟩:=aM h;cases h;exact a _ _ _ _ b W H σ Q G R fun v W' H' e c d=>k W' H' e c v d
def aFv{f:SF}(a:SS K t f):SSX K EE t (liS f):=by
 intro d M r M' h W H σ D G R k;obtain⟨⟨x,M1⟩,b,h⟩:=aM h;cases h;exact a _ _ _ _ b W H σ D G R fun W' H' e c=>k W' H' e c
def YS{h:FX}(a:SAX K EE tA fa):SEX K EE (EV (spX K h) EE tA) (KN h fa):=by
 intro v M r M' b W H σ Q G R k;obtain⟨⟨x,M1⟩,j,b⟩:=aM b;refine a _ _ _ _ j W H σ _ G R fun c l d i=>?_;cases x with
 |inr e=>cases b;exact k c l d i
 |inl xs=>exact fun vs rs=>⟨xs,M1,c,r,M',i,rs,b,fun m n o s=>k m n (d.trans o) s⟩
def aDu(a:SSX K EE t p)(b:SSX K EE u q):SSX K EE (aFg t u) (CU p q):=by
 intro z M o M' c W H σ D G R k;obtain⟨⟨x,M1⟩,n,c⟩:=aM c;refine a _ _ _ _ n W H σ _ G R fun h i j l=>?_;cases x with
 |xc d e=>cases c;exact k h i j l
 |o x=>
  cases x with
  |nx d=>exact fun m r=>b _ _ _ _ c h i m D l r fun s v w y=>k s v (j.trans w) y
  |bk d=>cases c;exact k h i j l
  |ct d=>cases c;exact k h i j l
  |rt x=>cases c;exact k h i j l
def VM(a:SEX K EE ta f):SSX K EE (ZE ta) (BA f):=by
 intro m M o M' b W H σ D G R k;obtain⟨⟨x,M1⟩,l,b⟩:=aM b;refine a _ _ _ _ l W H σ _ G R fun h i d j=>?_;cases x with
 |x e=>cases b;exact fun c dx z=>k h i d j σ c dx (R.up d) z
 |v x=>cases b;exact fun v n=>k h i d j σ (R.up d)
def aGl(c:STt K tt ft)(a:SSX K EE t p)(b:SSX K EE u q):SSX K EE (aHl tt t u) (SX ft p q):=by
 intro v M o M' d W H σ D G R k;obtain⟨⟨x,M1⟩,s,d⟩:=aM d;refine c _ _ _ _ s W H σ _ G R fun m n e r=>?_;cases x with
 |true=>rw[A4 rfl];rw[A4 rfl]at d;exact a _ _ _ _ d m n σ D r (R.up e) fun h i j l=>k h i (e.trans j) l
 |false=>rw[B2 A7];rw[B2 A7]at d;exact b _ _ _ _ d m n σ D r (R.up e) fun h i j l=>k h i (e.trans j) l
def US:SSX K EE (GV EE (eU K nm)) (EG nm):=by
 intro b M o M' a W H σ D G R k;cases a;exact k W H (.refl _) G σ _ Y R ⟨rfl,rfl⟩
def dA.setN{γ:Ga}{n:Tj}{x:CD}{v:V}(R:dA K W γ σ)(r:dI K W x v):dA K W (setG n γ x) (setN n σ v):=by
 cases n with
 |none=>exact R
 |some i=>exact Paired.set (x:=Z x) (y:=Z v) r i R
def dA.unbN{γ:Ga}{n:Tj}(R:dA K W γ σ):dA K W (ZQ n γ) (unbN n σ):=by
 cases n with
 |none=>exact R
 |some i=>exact Paired.set (x:=Y) (y:=Y) True.intro i R
inductive HsM(K:Fg):Tx HR->Tx HMi->Prop
 |nil:HsM K [] []
 |cons {h:HR} {m:HMi} {hs:Tx HR} {ms:Tx HMi} (hn:h.n=m.n) (ht:∀nm b,m.tab.lookup nm=Z b->PySem.W.exmOne K (.ref (eU K nm)) h.c=Z b) (hS:SS K h.t m.f) (r:HsM K hs ms):HsM K (h::hs) (m::ms)
def WJ{D:Ends}{W:Wd}{M M':Sto}{H:Hp}{γ:Ga}{σ:St}{ex:Exc}{c:Ua}{dx:Tk}{o:Out}(G:Good K W M H)(R:dA K W γ σ)(E:ExR K W ex c dx):
 ∀{hs:Tx HR}{ms:Tx HMi},HsM K hs ms->NL ms γ ex M=Z (o,M')->(∀W' H',W.Ext W'->Good K W' M' H'->aAD K D W' H' o)->tHs K D hs σ c dx H
 |_,_,.nil=>fun h _=>by cases h
 |_,_,@HsM.cons _ h m hs ms hn ht hS r=>fun d k=>by
  obtain⟨rfl,v⟩:=E;unfold NL at d;cases e:m.tab.lookup ex.nm with
  |none=>rw[e]at d;cases d
  |some b=>
   rw[e]at d;refine⟨b,ht _ _ e,?_⟩;cases b with
   |false=>rw[B2 A7];exact WJ G R ⟨rfl,v⟩ r d k
   |true=>
    rw[A4 rfl];intro a ha;obtain⟨⟨w,M1⟩,z,d⟩:=aM (show(m.f _ _).bind _=_ from d);have s:Z (aHn m.n w,M1)=Z (o,M'):=d;cases s;have A:Good K (W.more a) (M++[.exc false ex.nm ex.fs]) (upd H a (.ext (II a (.ref (eU K ex.nm)) dx false))):=G.new ha ⟨dx,rfl,v⟩;have y:=W.ext_more a;have B:dI K (W.more a) (.c M.length) (.ref a):=⟨by show M.length<W.n+1;rw[G.n];exact A0y _,by show _=V.ref (if M.length=W.n then a else _);rw[A4 G.n.symm]⟩;rw[hn];refine hS _ _ _ _ z (W.more a) _ _ _ A ((R.up y).setN B) fun C F I J=>?_;have l:=k C F (y.trans I) J;cases w with
    |nx i=>exact fun j R2=>l _ R2.unbN
    |bk i=>exact fun j R2=>l _ R2.unbN
    |ct i=>exact fun j R2=>l _ R2.unbN
    |rt x=>exact l
def aHw{tb:(St->XK)->TS}{rs:Tx HR}{ms:Tx HMi}(b:∀EE,SSX K EE (tb EE) p)(h:HsM K rs ms):SS K (aET K tb rs) (LO p ms):=by
 intro z M o M' a W H σ D G R k;obtain⟨⟨x,M1⟩,i,a⟩:=aM a;refine b _ _ _ _ _ i W H σ D G R fun j l d e=>?_;cases x with
 |o x=>cases a;exact k j l d e
 |xc m ex=>exact fun n c dx r E=>WJ e r E h a fun s v w y=>k s v (d.trans w) y
end
section
variable{ι:Type}
structure MX(K:Fg)(X:ι->Cx)(EE:ι->St->XK)(e:Ue)(f:EX):Prop where
 ex:∃t:ι->TE,(∀i,PE (X i) e (t i))/\∀i,SEX K (EE i) (t i) f
structure MAX(K:Fg)(X:ι->Cx)(EE:ι->St->XK)(es:Ta)(f:AX):Prop where
 ex:∃t:ι->TA,(∀i,PA (X i) es (t i))/\∀i,SAX K (EE i) (t i) f
 st:JH es
structure MSX(K:Fg)(X:ι->Cx)(EE:ι->St->XK)(st:Stmt)(f:SFX):Prop where
 ex:∃t:ι->TS,(∀i,PS (X i) st (t i))/\∀i,SSX K (EE i) (t i) f
structure MLX(K:Fg)(X:ι->Cx)(EE:ι->St->XK)(st:Tb)(f:SFX):Prop where
 ex:∃t:ι->TS,(∀i,PSs (X i) st (t i))/\∀i,SSX K (EE i) (t i) f
variable{K:Fg}{X:ι->Cx}{EE:ι->St->XK}{e a b c tg iter:Ue}{es:Ta}{f g:EX}{fa:AX}{p q:SFX}{ft:TF}{gf:GF}{st:Stmt}{sts sts':Tb}{pos:Pos}
def aGU{f:AF}(x:MA K X es f):MAX K X EE es (liA f):=by
 obtain⟨t,d,h⟩:=x.ex;exact⟨⟨fun _=>t,d,fun _=>aHy h⟩,x.st⟩
def VN{f:SF}(x:ML K X sts f):MLX K X EE sts (liS f):=by
 obtain⟨t,d,h⟩:=x.ex;exact⟨fun _=>t,d,fun _=>aFv h⟩
def aBy{F:FX}{p:Pos}(ok:∀i,XOk (X i) (EE i))(C:∀i,rR (X i).prog (X i).w (X i).K (X i).mg (X i).base k x ps (spX K F))(d:∀i,eJ k (X i).A)(y:MAX K X EE (e::es) fa)(h:∀i,Gl (X i) x:=by intro _;rfl)(hd:(x==("__debug__":Str))=false:=by decide):
 MX K X EE (.Call (.Name x p) (e::es) [] pos) (KN F fa):=by
 obtain⟨u,j,l⟩:=y.ex;exact⟨_,fun i=>aBG (ok i) (C i) (d i) (j i) (h i) hd (y.st.1 _) (y.st.2.plain _ _),fun i=>YS (l i)⟩
def PJ(x:MSX K X EE st p):MLX K X EE [st] p:=by
 obtain⟨t,d,h⟩:=x.ex;exact⟨t,fun i=>OC (d i),h⟩
def aAq(x:MSX K X EE st p)(y:MLX K X EE sts q):MLX K X EE (st::sts) (CU p q):=by
 obtain⟨t,d,h⟩:=x.ex;obtain⟨u,j,k⟩:=y.ex;exact⟨_,fun i=>HX (d i) (j i),fun i=>aDu (h i) (k i)⟩
def VY(x:MX K X EE e f)(hs:∀i,swapsWith e Y pos.line (X i).env=pure false:=by intro _;rfl):MSX K X EE (.Expr e pos) (BA f):=by
 obtain⟨t,d,h⟩:=x.ex;exact⟨_,fun i=>QA (d i) (hs i),fun i=>VM (h i)⟩
def aGx(x:MT K X c ft)(y:MLX K X EE sts p)(z:MLX K X EE sts' q):MSX K X EE (.If c sts sts' pos) (SX ft p q):=by
 obtain⟨t,d,h⟩:=x.ex;obtain⟨u,j,k⟩:=y.ex;obtain⟨v,l,m⟩:=z.ex;exact⟨_,fun i=>aEt (d i) (j i) (l i),fun i=>aGl h (k i) (m i)⟩
def LP{cpos:Pos}(ok:∀i,XOk (X i) (EE i))(h:∀i,(X i).K=K)(j:∀i,(X i).calm=true)(hm:∀i,(X i).mg x=Z (.ref (eU K x)))(q:PySem.W.excIn K (eU K x) bmV "ValueError.__new__"=true)(k:∀i,Gl (X i) x:=by intro _;rfl)(hd:(x==("__debug__":Str))=false:=by decide):
 MSX K X EE (.Raise (Z (.Call (.Name x d) [] [] cpos)) Y pos) (EG x):=
 ⟨fun i=>GV (EE i) (eU K x),fun i=>SV (ok i) (j i) (hm i) (by rw[h i];exact q) (k i) hd,fun _=>US⟩
def aIn(X:ι->Cx):ι×T2×(St->XK)->Cx:=fun j=>(yA (X j.1) j.2.1).wish (XS (yA (X j.1) j.2.1) j.2.2)
noncomputable def aIT:ι×T2×(St->XK)->St->XK:=fun j=>j.2.2
def aJe(X:ι->Cx):ι×Ud->Cx:=fun j=>hCx (X j.1) j.2
def aIV(bd:∀i,Body (X i))(j:ι×T2×(St->XK)):XOk (aIn X j) (aIT (ι:=ι) j):=
 XOk.of (X:=yA (X j.1) j.2.1) ⟨(bd j.1).stk,(bd j.1).fr,(bd j.1).ex⟩ _
structure MH(K:Fg)(X:ι->Cx)(hs:Tx ExceptHandler)(ms:Tx HMi):Prop where
 ex:∃rs,(∀i,ZH (X i) hs rs)/\HsM K rs ms
def aFF:MH K X [] []:=⟨[],fun _=>aFA,.nil⟩
def aBM{m:Pos}{j:Stmt}{d:Tb}{tab:Tx (Str×Bool)}{f:SF}(k:Ua)(bd:∀i,Body (X i))(o:∀i,UY (X i) x k)
 (hn:∀i,aHR (X i) nm n)
 (ht:∀p∈tab,PySem.W.exmOne K (.ref (eU K p.1)) k=Z p.2) (hS:ML K (aJe X) (j::d) f) (r:MH K X hs ms) (s:∀i,Gl (X i) x:=by intro _;rfl) (hd:(x==("__debug__":Str))=false:=by decide):
 MH K X (.ExceptHandler (Z (.Name x l)) nm (j::d) m::hs) (⟨tab,n,f⟩::ms):=by
 obtain⟨t,u,v⟩:=hS.ex;obtain⟨rs,w,y⟩:=r.ex;refine⟨⟨k,n,t⟩::rs,fun i=>aBq (h:=⟨k,n,t⟩) (bd i) (o i) (s i) hd (hn i) (fun e=>u (i,e)) (w i),.cons rfl (fun nm b z=>?_) v y⟩;exact ht (nm,b) (L9 z)
def aGK{h₀:ExceptHandler}{hs:Tx ExceptHandler}(bd:∀i,Body (X i))(d:∀i,(X i).K=K)(x:MLX K (aIn X) (aIT (ι:=ι)) sts p)(h:MH K X (h₀::hs) ms):MS K X (.Try sts (h₀::hs) [] [] pos) (LO p ms):=by
 obtain⟨rs,j,l⟩:=h.ex;obtain⟨t,m,n⟩:=x.ex;refine⟨aET K (fun EE D σ H=>∀i pins,t (i,pins,EE) D σ H) rs,fun i=>?_,aHw (fun EE=>?_) l⟩
 .have:=aGg (X:=X i) (tb:=fun EE D σ H=>∀i pins,t (i,pins,EE) D σ H) (pos:=pos) (bd i) (fun pins EE ps s σ H D I h=>m (i,pins,EE) ps s σ H D I (h i pins)) (j i);rw[d i]at this;exact this
 .exact fun r M o M' u W H σ D G R k i pins=>n (i,pins,EE) r M o M' u W H σ D G R k
section
variable{P:Uf}{w:World}{K:Fg}{mg:Str->Ti}{base:Heap}
abbrev aHt(P:Uf)(w:World)(K:Fg)(mg:Str->Ti)(base:Heap)(N:Te)(x:Str)(st:Stmt)(f:Ud)(cdv:Ua)(A:Ug)(outer:Tx Env)(s:Uc)(H:Hp)(E:XK):Unit->Cx:=fun _=>
 (nZ (CX1 P w) P w K mg base N x (aN st) f cdv A outer s H E).wish (XS (nZ (CX1 P w) P w K mg base N x (aN st) f cdv A outer s H E) fun _=>E)
def aDV{st:Stmt}{f:Ud}(i:Unit):XOk (aHt P w K mg base N x st f cdv A outer s H E i) ((fun _ _=>E:Unit->St->XK) i):=XOk.of NV _
def Fun.okXF{x qual:Str}{st:Stmt}{N ps:Te}{k:Nat}{b:SFX}{f:Ud}{fd:FuncData}(Fu:Fun K x qual st f fd)(S:bC N ps (aN st))
 (i:∀(f:Ud)(cdv:Ua)(A:Ug)(outer:Tx Env)(s:Uc)(H:Hp)(E:XK),eJ k (A.deeper (envOfC qual (aN st) s.heap.objs.size f cdv))->
  MLX K (aHt P w K mg base N qual st f cdv A outer s H E) (fun _ _=>E) (cS st) b):mY P w K mg base (CX1 P w) (k+1) f fd ps (spX K (fnX ps.length N.length b)):=by
 obtain⟨oc,od,kV,doc,pm,an,cdv,ct,osl,rfl,lk,l⟩:=Fu.ex
 have len:∀vs H Q E,spX K (fnX ps.length N.length b) vs H Q E->vs.length=ps.length:=fun vs H Q E h=>by
  obtain⟨xs,M,W,y,M',G,R,d,_⟩:=h;by_cases j:xs.length=ps.length
  .rw[<- Paired.len R];exact j
  .unfold fnX at d;rw[B2 j]at d;cases d
 refine aGH lk l S len fun A outer s H vs Q E F h=>?_;obtain⟨t,I,J⟩:=(i f cdv A outer s H E F).ex;refine⟨t (),I (),?_⟩;obtain⟨xs,M,W,r,M',G,R,d,m⟩:=h
 have j:xs.length=ps.length:=by
  by_cases j:xs.length=ps.length
  .exact j
  .unfold fnX at d;rw[B2 j]at d;cases d
 unfold fnX at d;rw[A4 j]at d;obtain⟨⟨o,M1⟩,L,d⟩:=aM d
 have O:dA K W (xs.map Z++List.replicate (N.length-xs.length) Y) (start N vs):=by
  unfold start;rw[<- Paired.len R];exact Paired.app (bK.some R) (rD _)
 refine J () _ _ _ _ L W H _ _ G O fun n u B C=>?_;cases o with
 |xc D e=>cases d;exact fun σ c dx _ z=>m n u B C c dx z
 |o o=>
  cases o with
  |rt x=>cases d;exact fun v r=>m n u B C v r
  |nx D=>cases d;exact fun σ r=>m n u B C .non rfl
  |bk D=>cases d
  |ct D=>cases d
def Def.okX{st:Stmt}{ps:Te}{b:SFX}(D:Def K mg x st)(S:bC N ps (aN st))
 (h:∀(kV doc pm:Ua)(an:Tk)(cdv ct:Ua)(us:T7),us.length=ps.length->bindArgs (PySem.W.fnOf x x (gK st) (cS st) (aN st) .none kV doc pm an cdv ct) ⟨us,[]⟩=pure (ps.zip us))
 (d:∀(f:Ud)(cdv:Ua)(A:Ug)(outer:Tx Env)(s:Uc)(H:Hp)(E:XK),eJ k (A.deeper (envOfC x (aN st) s.heap.objs.size f cdv))->
  MLX K (aHt P w K mg base N x st f cdv A outer s H E) (fun _ _=>E) (cS st) b):rR P w K mg base (k+1) x ps (spX K (fnX ps.length N.length b)):=by
 obtain⟨f,fd,Fu,m⟩:=D.ex;exact⟨f,fd,Fu.okXF S d,m,Fu.kp,Fu.binds h⟩
end
end
structure XC(K:Fg)(C:Ud):Prop where
 c:aAE K C
 ha:PySem.W.findIn K (.ref C) "__class__"=Z (Z (.builtin "object.__class__"))
 hn:PySem.W.specialIn K (.builtin "object.__class__") "__get__"=Z (Z (.builtin "getset_descriptor.__get__"))
 htk:PySem.W.takesIn K (.builtin "object.__class__")=Z true
 hm:PySem.W.mroIn K C (.type "object")=Z true
def aEL(H:Hp):Tk->Prop
 |none=>True
 |some d=>∃us,H d=Z (.xd us)
inductive ClV:V->Ua->Prop
 |own (C:Ud):ClV (.ref C) (.ref C)
 |ty (T:String):ClV (.ty T) (.type T)
def ClV.is(h:ClV v c)(r:RelV v u):u=c:=by cases h<;>exact r
def VH(K:Fg):Tf->Hp->VK->Prop:=fun xs H Q=>∃v d c b,xs=[v,d]/\ClV d c/\Q (.bl b) H /\
 ((v=.non/\PySem.W.kitOne K (.type "NoneType") c=Z b)\/∃a C dx fr,v=.ref a/\H a=Z (.ext (II a (.ref C) dx fr))/\aEL H dx/\XC K C/\PySem.W.kitOne K (.ref C) c=Z b)
section
variable{X:Cx}{K:Fg}
def VV(I:Inv X pins σ H s)(h:H a=Z (.ext (II a (.ref C) dx fr)))(d:aEL H dx):∃ox od,PySem.W.InstAt s.heap a ox C od/\ox.dict=dx:=by
 obtain⟨⟨o,vs,c,e,b,h4,_⟩,_⟩:=I.hok a _ h
 have f:PySem.W.notCls o=true:=by
  obtain⟨_,_,dt,_⟩:=o;cases h4;rfl
 cases dx with
 |none=>exact⟨o,Y,⟨c,e,f,by rw[b];exact True.intro⟩,b⟩
 |some g=>
  obtain⟨us,hd⟩:=d;obtain⟨od,q⟩:=(I.hok g _ hd).there;exact⟨o,Z od,⟨c,e,f,by rw[b];exact q⟩,b⟩
def RR:dM X (.builtin "isinstance") (VH X.K):=by
 intro pins s σ H vs us Q I r h;obtain⟨v,l,c,b,rfl,j,q,h⟩:=h;obtain⟨u,m,rfl,i,f⟩:=vals2 r;cases j.is f;rcases h with⟨rfl,e⟩|⟨a,C,dx,fr,rfl,ha,d,xc,e⟩
 .cases (show u=Value.none from i);exact PySem.W.kia_one PySem.W.kitx_none I.kIn True.intro e (fun z=>nomatch z) fun g=>⟨.bl _,H,I.tok g,rfl,q⟩
 .cases (show u=Value.ref a from i);obtain⟨k,od,J,_⟩:=VV I ha d;exact PySem.W.kia_one (XU xc.c xc.ha xc.hn xc.htk xc.hm) I.kIn ⟨k,od,J⟩ e (fun z=>nomatch z) fun g=>⟨.bl _,H,I.tok g,rfl,q⟩
def aHT(h:X.K=K):dM X (.builtin "isinstance") (VH K):=by subst h;exact RR
def KH(tab:Tx (Str×Bool))(nn:Tz Bool)(f:EF):EF:=fun a M=>(f a M).bind fun r=>match r.1 with
 |.c i=>(match r.2[i]? with
  |some (.exc _ nm _)=>(tab.lookup nm).bind fun b=>Z (.d (.bool b),r.2)
  |_=>Y)
 |.d .none=>nn.bind fun b=>Z (.d (.bool b),r.2)
 |_=>Y
def HU.ok(r:HU K W dx fs)(s:kH W.F H):aEL H dx:=by
 cases dx with
 |none=>exact True.intro
 |some d=>obtain⟨_,us,h,_⟩:=r;exact⟨us,s _ _ h⟩
def Good.excAt{i:Nat}(G:Good K W M H)(h:M[i]?=Z (.exc fr nm fs)):∃dx,H (W.α i)=Z (.ext (II (W.α i) (.ref (eU K nm)) dx fr))/\HU K W dx fs:=by
 obtain⟨_,o,b,a⟩:=G.cs i _ h (by intro z;cases z);cases o with
 |ext c=>
  obtain⟨dx,rfl,r⟩:=a;exact⟨dx,b,r⟩
 |_=>exact False.elim a
def aCm{tab:Tx (Str×Bool)}{nn:Tz Bool}{n:TE}{f:EF}{j:V}{c:Ua}(o:ClV j c)(ht:∀p∈tab,XC K (eU K p.1)/\PySem.W.kitOne K (.ref (eU K p.1)) c=Z p.2)(hn:∀b,nn=Z b->PySem.W.kitOne K (.type "NoneType") c=Z b)
 (a:SE K n f):SE K (tCB (VH K) (sN n (sN (tC j) SZ))) (KH tab nn f):=by
 intro C M x M' h W H σ Q G R k;obtain⟨⟨y,M1⟩,w,h⟩:=aM h;refine a _ _ _ _ w W H σ _ G R fun v q r s l u=>?_;cases y with
 |t _=>cases h
 |f _=>cases h
 |g _=>cases h
 |c i=>
  dsimp only at h;cases e:M1[i]? with
  |none=>rw[e]at h;cases h
  |some cl=>
   rw[e]at h;cases cl with
   |exc fr nm fs=>
    obtain⟨b,m,h⟩:=aM (show(tab.lookup nm).bind _=_ from h);cases h;obtain⟨z,h4⟩:=ht (nm,b) (L9 m);obtain⟨dx,A,B⟩:=l.excAt e;exact⟨v,j,c,b,rfl,o,k _ q r s l rfl,.inr ⟨_,_,dx,fr,u.2,A,B.ok l.fh,z,h4⟩⟩
   |_=>cases h
 |d y=>
  cases y with
  |none=>
   obtain⟨b,m,h⟩:=aM (show nn.bind _=_ from h);cases h;exact⟨v,j,c,b,rfl,o,k _ q r s l rfl,.inl ⟨u,hn b m⟩⟩
  |_=>cases h
end
section
variable{ι:Type}{K:Fg}{X:ι->Cx}{a:Ue}{f:EF}{pos:Pos}
def aFI(hm:∀i,(X i).mg y=Z (.ref C))(b:∀i,Gl (X i) y:=by intro _;rfl)(hd:(y==("__debug__":Str))=false:=by decide):∀i c,PE (X i) (.Name y c) (tC (.ref C)):=fun i _=>aCQ (b i) (hm i) rfl hd
def aIW(hm:∀i,(X i).mg y=Y)(b:bootBuiltins y=Z (.type T))(c:∀i,Gl (X i) y:=by intro _;rfl)(hn:y≠"__name__":=by decide)(hd:(y==("__debug__":Str))=false:=by decide):∀i d,PE (X i) (.Name y d) (tC (.ty T)):=fun i _=>yL (v:=.ty T) (c i) (hm i) b rfl hn hd
def RH{p d:Pos}{tab:Tx (Str×Bool)}{nn:Tz Bool}(g:∀i,(X i).K=K)(h:ClV e c)(j:∀i d,PE (X i) (.Name y d) (tC e))(ht:∀p∈tab,XC K (eU K p.1)/\PySem.W.kitOne K (.ref (eU K p.1)) c=Z p.2)(hn:∀b,nn=Z b->PySem.W.kitOne K (.type "NoneType") c=Z b)
 (x:ME K X a f) (hs:aAt a [.Name y d]) (hm:∀i,(X i).mg "isinstance"=Y) (k:∀i,Gl (X i) "isinstance":=by intro _;rfl):ME K X (.Call (.Name "isinstance" p) [a,.Name y d] [] pos) (KH tab nn f):=by
 obtain⟨t,l,m⟩:=x.ex;exact⟨_,fun i=>vH (aHT (g i)) (k i) (hm i) boot_isinstance (kW (l i) (kW (j i _) AA cK) (hs _)) (by decide) (by decide) (hs _) (oS cK wA),aCm h ht hn m⟩
end
def oY(h:FX)(f:AF):EF:=fun a M=>(f a M).bind fun r=>(h r.1 r.2).bind fun q=>match q.1 with
 |.v x=>Z (x,q.2)
 |.x _=>Y
noncomputable def noX:St->XK:=fun _ _ _ _=>False
section
variable{X:Cx}{K:Fg}
def XZ{e:Ue}{es:Ta}(C:rR X.prog X.w X.K X.mg X.base k x ps sp)(d:eJ k X.A)(ha:PA X (e::es) t)(g:Gl X x)
 (a:(x==("__debug__":Str))=false) (i:starEach (e::es) X.env=(false,eval e X.env)::starEach es X.env) (c:(backTo pos (starEach es X.env)).any (·.1)=false):
 PE X (.Call (.Name x p) (e::es) [] pos) (EV sp noX t):=by
 obtain⟨f,fd,F,m,kp,b⟩:=C.ex
 exact OK (dvs:=[]) (E:=noX []) F d g m kp b .nil (fun _ _ _ _ _ _ _ h=>by obtain⟨_,_,_,_,_,_,_,_,_,_,_,_,_,z⟩:=h;exact z.elim) ha a i c |> fun h pins s σ H Q I j=>h pins s σ H Q I (by
  show t σ H fun vs l=>sp (vs++[]) l Q (noX []);simpa only[List.append_nil]using j)
def RM{h:FX}{c:TA}{fa:AF}(a:SA K c fa):SE K (EV (spX K h) noX c) (oY h fa):=by
 intro s M x M' b W H σ Q G R k;obtain⟨⟨xs,M1⟩,d,b⟩:=aM b;obtain⟨⟨r,M2⟩,f,b⟩:=aM b;refine a _ _ _ _ d W H σ _ G R fun vs g t i j l=>?_;refine⟨xs,M1,g,r,M2,j,l,f,fun m n o p=>?_⟩;cases r with
 |x e=>cases b
 |v y=>cases b;exact fun v q=>k v m n (i.trans o) p q
end
def DR{ι:Type}{X:ι->Cx}{e:Ue}{es:Ta}{pos:Pos}{F:FX}(C:∀i,rR (X i).prog (X i).w (X i).K (X i).mg (X i).base k x ps (spX K F))(a:∀i,eJ k (X i).A)(y:MA K X (e::es) fa)(b:∀i,Gl (X i) x:=by intro _;rfl)(hd:(x==("__debug__":Str))=false:=by decide):
 ME K X (.Call (.Name x p) (e::es) [] pos) (oY F fa):=by
 obtain⟨u,c,d⟩:=y.ex;exact⟨_,fun i=>XZ (C i) (a i) (c i) (b i) hd (y.st.1 _) (y.st.2.plain _ _),RM d⟩
def xX:bootBuiltins "ValueError"=Z (.type "ValueError"):=by decide +kernel
section
variable{K:Fg}{cv:Ua}{a:Str}{b:Bool}{l:Tx (Str×Bool)}
def XX:∀p∈([]:Tx (Str×Bool)),PySem.W.exmOne K (.ref (eU K p.1)) cv=Z p.2:=fun _ h=>absurd h (by simp)
def UC(h:PySem.W.exmOne K (.ref (eU K a)) cv=Z b)(r:∀p∈l,PySem.W.exmOne K (.ref (eU K p.1)) cv=Z p.2):∀p∈(a,b)::l,PySem.W.exmOne K (.ref (eU K p.1)) cv=Z p.2:=fun p c=>by
 rcases List.mem_cons.mp c with rfl|z
 .exact h
 .exact r p z
def QO{b:Bool}(h:PySem.W.kitOne K (.type "NoneType") cv=Z b):∀c,Z b=Z c->PySem.W.kitOne K (.type "NoneType") cv=Z c:=fun c e=>by cases e;exact h
def PQ(h:PySem.W.nsIn K mainGlobals nm=Z (Z (.ref C))):eU K nm=C:=by unfold eU;rw[h]
end
mutual
noncomputable def snap:Nat->Sto->CD->Tz Ub
 |_,_,.d x=>Z x
 |0,_,.c _=>Y
 |n+1,M,.c i=>match M[i]? with
  |some (.lst xs)=>(jW n M xs).bind fun ds=>Z (.list ds)
  |_=>Y
 |_,_,.f _=>Y
 |_,_,.g _=>Y
 |0,_,.t _=>Y
 |n+1,M,.t xs=>(jW n M (xs.map cdA)).bind fun ds=>Z (.tuple ds)
noncomputable def jW:Nat->Sto->T8->Tz (T6)
 |_,_,[]=>Z []
 |n,M,x::xs=>(snap n M x).bind fun d=>(jW n M xs).bind fun ds=>Z (d::ds)
end
section
variable{K:Fg}{W:Wd}{M:Sto}{H:Hp}
def Good.lstAt'(G:Good K W M H){i:Nat}(h:M[i]?=Z (.lst xs)):∃vs,H (W.α i)=Z (.lst vs)/\bK K W xs vs:=by
 obtain⟨_,o,b,a⟩:=G.cs i _ h (by intro z;cases z);cases o with
 |lst vs=>exact⟨vs,b,a⟩
 |_=>exact False.elim a
mutual
def qH(G:Good K W M H):∀(n:Nat)(x:CD)(d:Ub)(v:V),snap n M x=Z d->dI K W x v->Rep K H d v
 |0,.d x=>fun d v h r=>by unfold snap at h;cases h;exact Rep.same G.fh _ _ r
 |n+1,.d x=>fun d v h r=>by unfold snap at h;cases h;exact Rep.same G.fh _ _ r
 |0,.c i=>fun d v h r=>by unfold snap at h;cases h
 |n+1,.c i=>fun d v h r=>by
  unfold snap at h;cases e:M[i]? with
  |none=>rw[e]at h;cases h
  |some c=>
   rw[e]at h;cases c with
   |lst xs=>
    obtain⟨ds,b,h⟩:=aM (show(jW n M xs).bind _=_ from h);cases h;obtain⟨vs,j,l⟩:=G.lstAt' e;exact⟨W.α i,vs,r.2,SqL.of j,wN G n xs ds vs b l⟩
   |_=>cases h
 |0,.f xs=>fun d v h r=>by unfold snap at h;cases h
 |n+1,.f xs=>fun d v h r=>by unfold snap at h;cases h
 |0,.g xs=>fun d v h r=>by unfold snap at h;cases h
 |n+1,.g xs=>fun d v h r=>by unfold snap at h;cases h
 |0,.t xs=>fun d v h r=>by unfold snap at h;cases h
 |n+1,.t xs=>fun d v h r=>by
  unfold snap at h;obtain⟨ds,b,h⟩:=aM h;cases h;obtain⟨a,vs,rfl,j,l⟩:=r;exact⟨a,vs,rfl,SqT.of (G.fh _ _ j),wN G n _ ds vs b (QD l)⟩
def wN(G:Good K W M H):∀(n:Nat)(xs:T8)(ds:T6)(vs:Tf),jW n M xs=Z ds->bK K W xs vs->aL K H ds vs
 |_,[]=>fun ds vs h r=>by
  unfold jW at h;cases h;cases r;rfl
 |n,x::xs=>fun ds vs h r=>by
  unfold jW at h;obtain⟨d,b,h⟩:=aM h;obtain⟨es,j,h⟩:=aM h;cases h;cases r with
  |@cons _ v _ k m o=>exact⟨v,k,rfl,qH G n x d v b m,wN G n xs es k j o⟩
end
end
def vP:snap n M (.d x)=Z x:=by cases n<;>simp only[snap]
open PySem PySem.Spec PyProof.Rows PySem.Builtin PySem.Builtin.ObjectAttr
end L2
namespace L2
open PySem PySem.Spec PyProof.Rows
section
variable{K:Fg}
def GB:F2:=fun x y M=>(rA M x).bind fun xs=>(rA M y).bind fun a=>if xs.length+a.length<=sizeLine then Z (.c M.length,M++[.lst (xs++a)])else Y
def aDo:P2 K (JZ K) GB:=by
 intro x y M z M' h W H v u Q G e f k;obtain⟨xs,g,h⟩:=aM h;obtain⟨b,i,h⟩:=aM h;by_cases a:xs.length+b.length<=sizeLine
 .rw[A4 a]at h;cases h;obtain⟨p,vs,rfl,j,d⟩:=rP G g e;obtain⟨q,us,rfl,m,hs⟩:=rP G i f;refine⟨p,q,vs,us,rfl,rfl,j,m,by rw[<- Paired.len d,<- Paired.len hs];exact a,fun l a=>?_⟩;exact k _ (W.more l) _ (W.ext_more l) (G.new a (c:=.lst (xs++b)) (o:=.lst (vs++us)) (Paired.app d hs)) G.newV
 .rw[B2 a]at h;cases h
end
section
variable{K:Fg}
def IL(K:Fg)(c:Ua)(tab:Tx (Str×Bool)):Bool:=tab.all fun p=>match W.kitOne K (.ref (eU K p.1)) c with
 |some b=>b==p.2
 |none=>false
def QF{ns:Te}(d:∀nm∈ns,XC K (eU K nm))(h:IL K c tab=true)(e:tab.map Prod.fst=ns):∀p∈tab,XC K (eU K p.1)/\W.kitOne K (.ref (eU K p.1)) c=Z p.2:=by
 intro p a;refine⟨d _ (by rw[<- e];exact List.mem_map_of_mem a),?_⟩;have:=List.all_eq_true.mp h p a;split at this
 .rename_i b f;rw[f,eq_of_beq this]
 .cases this
def aBS:∀nm∈([]:Te),XC K (eU K nm):=fun _ h=>absurd h (by simp)
def VR{l:Te}(x:XC K (eU K a))(r:∀nm∈l,XC K (eU K nm)):∀nm∈a::l,XC K (eU K nm):=fun p b=>by
 rcases List.mem_cons.mp b with rfl|z
 .exact x
 .exact r p z
end
abbrev KY:=Key ⊕ Tx Key
abbrev KF:=Ga->Sto->Tz (KY×Sto)
section
variable{K:Fg}
def keysOf:T8->Tz (Tx Key)
 |[]=>Z []
 |x::xs=>(keyOf x).bind fun k=>(keysOf xs).bind fun ks=>Z (k::ks)
variable{t td ty tx tv:TE}{tA:TA}{f fo fx fv:EF}{fk:KF}{fa:AF}
section
variable{κ:Type}[DecidableEq κ]
noncomputable def lkC(kvs:Tx (κ×CD))(k:κ):Th:=(kvs.find? fun a=>decide (a.1=k)).map (·.2)
end
noncomputable def lkP(kvs:Tx (Tx Key×Ub))(k:Tx Key):Tz Ub:=(kvs.find? fun a=>decide (a.1=k)).map (·.2)
def atD(M:Sto):CD->KY->Tz (Th)
 |.c i,.inl k=>match M[i]? with
  |some (.dk kvs)=>Z (lkC kvs k)
  |_=>Y
 |.c i,.inr ks=>match M[i]? with
  |some (.dt kvs)=>Z (lkC kvs ks)
  |_=>Y
 |.f kvs,.inr ks=>Z ((lkP kvs ks).map .d)
 |_,_=>Y
end
end L2
namespace PySem
open Sem (wp)
open AutoSeq1 (wpAny_loadPart')
section
variable{prog:Uf}{w:World}{A:Ug}{E:T1}{s:Uc}
def BV{items}{x:Ua}{Q:T1}(a:s.heap.IsTupleIter it l i)(e:s.heap.IsTuple l items)(f:items[i]?=Z x)
 (g:∀h',h'.IsTupleIter it l (i+1)->Heap.SameBut it s.heap h'->Q x { s with heap:=h' }):wpAny (model prog w) A (Builtin.SmallTypes.nextOf (.ref it)) Q E s:=by
 obtain⟨o,b,h,hd⟩:=id a;obtain⟨j,c,_,k,d⟩:=e;unfold Builtin.SmallTypes.nextOf;refine A1 (U1 (name:=Str.ofString "__next__") a.typeIs A0l (U7 A0l a.typeIs F.entry_tuple_iterator_next ?_ (F.args_tuple_iterator_next_1 _)));show wpAny _ _ (field (.ref it) 0 >>= _) _ _ s;refine A1 (J0 b hd (x:=.ref l) rfl ?_);show wpAny _ _ (if (Value.ref l==Value.none)=true then _ else _) _ _ s;rw[B2 (show ¬((Value.ref l==Value.none)=true)from A7)];show wpAny _ _ (field (.ref it) 1 >>= _) _ _ s;refine A1 (J0 b hd (x:=.int i 0) rfl ?_);show wpAny _ _ (seqItems? (.ref l) >>= _) _ _ s;refine A1 (Z7 c d ?_);simp only[Int.toNat_natCast,f];refine A1 (A1r b hd (by simp) (B5 ⟨x,rfl,B5 (g _ ?_ (Heap.SameBut.update ..))⟩));exact⟨_,A1i _ b (Obj.isFreed_of_fields (A0e hd _)),(Obj.cls_mapFields ..).trans h,by rw[A0e hd];simp[rawInt]⟩
def vW{items}{Q:T1}(g:A.handled=Y)(b:s.heap.IsTupleIter it l i)(h:s.heap.IsTuple l items)(j:items[i]?=Y)
 (k:∀h' e,Heap.ExtBut it s.heap h'->(∃o,h'.get? e=Z o/\o.cls=.type "StopIteration")->E (.ref e) { s with heap:=h' }):wpAny (model prog w) A (Builtin.SmallTypes.nextOf (.ref it)) Q E s:=by
 obtain⟨o,c,n,hd⟩:=id b;obtain⟨p,d,_,q,f⟩:=h;unfold Builtin.SmallTypes.nextOf;refine A1 (U1 (name:=Str.ofString "__next__") b.typeIs A0l (U7 A0l b.typeIs F.entry_tuple_iterator_next ?_ (F.args_tuple_iterator_next_1 _)));show wpAny _ _ (field (.ref it) 0 >>= _) _ _ s;refine A1 (J0 c hd (x:=.ref l) rfl ?_);show wpAny _ _ (if (Value.ref l==Value.none)=true then _ else _) _ _ s;rw[B2 (show ¬((Value.ref l==Value.none)=true)from A7)];show wpAny _ _ (field (.ref it) 1 >>= _) _ _ s;refine A1 (J0 c hd (x:=.int i 0) rfl ?_);show wpAny _ _ (seqItems? (.ref l) >>= _) _ _ s;refine A1 (Z7 d f ?_);simp only[Int.toNat_natCast,j];refine A1 (wpAny_rule (A1 (A1r c hd (by simp) ?_)));show wpAny _ _ (newExc (.type "StopIteration") [] >>= _) _ _ _;refine A1 ?_;simp only[newExc,newTuple];refine A1 (J7 ?_ (by size_fits));refine A1 (m:=firstArgMember _ _) (wpAny_of_eq (a:=Value.none) (by first|rfl|(simp only[firstArgMember];rfl)) ?_);refine J7 ?_ (by size_fits);simp only[raiseNew];refine A1 (wpAny_handled ?_)
 first|rw[show A.in1.handled=Y from g]|rw[g]
 refine A1 (B5 (wpAny_throw ?_));exact k _ _ (((Heap.SameBut.update ..).extBut.push _).push _) ⟨_,C6 _ rfl,rfl⟩
end
def oF{A:Ug}(hh:A.handled=Y)(it l:Ud)(hne:l≠it)(items:Tl):
 Draws prog w A it [it,l] items.size (fun i v=>items[i]?=Z v) (fun i h=>h.IsTupleIter it l i/\h.IsTuple l items) where
 live:=fun _ _ st=>let⟨o,ho,_⟩:=st.1;⟨o,ho⟩
 frame:=fun _ _ _ st hk=>⟨st.1.at fun o e=>hk it (by simp) o e,let⟨o,ho,r⟩:=st.2;⟨o,hk l (by simp) o ho,r⟩⟩
 item:=fun i s Q E hi st hQ=>by
  refine BV st.1 st.2 (x:=items[i]) (by simp[hi]) fun h' hit' hs'=>?_;exact hQ _ h' s.toks (by simp[hi]) ⟨hit',let⟨o,ho,r⟩:=st.2;⟨o,(hs'.2 l hne).trans ho,r⟩⟩ hs'
 done:=fun s Q E st hE=>vW hh st.1 st.2 (by simp) hE
def zX(l:Ud)(a:Tl)(n:Nat)(e:Tk)(sl:Array (Ti)):
 Meets (Builtin.«enumerate.__new__» ⟨[.type "enumerate",.ref l],[]⟩) (fun _ R s=>s.heap.get? l=Z { cls:=.type "tuple",dict:=e,data:=.seq a n,slots:=sl } /\
  R (.ok (.ret (.ref (s.heap.push { cls:=.type "tuple_iterator",data:=.fields #[.ref l,.int 0 0] }).objs.size)))
   { s with heap:=(s.heap.push { cls:=.type "tuple_iterator",data:=.fields #[.ref l,.int 0 0] }).push { cls:=.type "enumerate",data:=.fields #[.none,.bool false,.ref s.heap.objs.size,rawInt 0,.none,.none] } }):=
 .of_wp fun prog w A R s h=>by
  obtain⟨j,g,d,k,os⟩:=s;obtain⟨b,h⟩:=h;have i:=sub_enumerate;have f:Heap.IsTuple (Shared.heap ⟨j,g,d,k,os⟩) l a:=⟨_,b,rfl,n,rfl⟩
  wp_walk using Z1 b
  refine wpAny_stack_any fun st=>B5 ?_;split
  .rename_i c _ _ _ _ _;cases (c==Value.type "enumerate")
   .wp_walk using Z1 b,A0d f
    exact⟨_,rfl,h⟩
   .wp_walk using Z1 b,A0d f
    exact⟨_,rfl,h⟩
  .wp_walk using Z1 b,A0d f
   exact⟨_,rfl,h⟩
section
variable{prog:Uf}{w:World}{A:Ug}{E:T1}{s:Uc}
def BU{Q:T1}(i:s.heap.IsTuple l a)
 (h:∀h',IsEnum h' (s.heap.objs.size+1) s.heap.objs.size 0 .none->h'.IsTupleIter s.heap.objs.size l 0->h'.objs.size=s.heap.objs.size+2->
  (∀b o,s.heap.get? b=Z o->h'.get? b=Z o)->Q (.ref (s.heap.objs.size+1)) { s with heap:=h' }):
 wpAny (model prog w) A (call (.type "enumerate") [.ref l]) Q E s:=by
 obtain⟨⟨c,d,dt,sl⟩,j,e,n,hd⟩:=i
 replace e:c=.type "tuple":=e
 replace hd:dt=.seq a n:=hd
 subst e hd
 refine callType_new F.called_enumerate (by decide) (F.typeCall_enumerate_1 _) (F.newCall_enumerate_1 _) (fun obj=>F.args_object_init_2 obj _) F.entry_enumerate_new
  (zX l a n d sl) ⟨j,?_⟩
 have f:(s.heap.push { cls:=.type "tuple_iterator",data:=.fields #[.ref l,.int 0 0] }).objs.size=s.heap.objs.size+1:=A0k ..;show _/\_;rw[f]
 have g:IsEnum ((s.heap.push { cls:=.type "tuple_iterator",data:=.fields #[.ref l,.int 0 0] }).push
  { cls:=.type "enumerate",data:=.fields #[.none,.bool false,.ref s.heap.objs.size,rawInt 0,.none,.none] }) (s.heap.objs.size+1) s.heap.objs.size 0 .none:=by
  have:=C6 (s.heap.push { cls:=.type "tuple_iterator",data:=.fields #[.ref l,.int 0 0] })
   (o:={ cls:=.type "enumerate",data:=.fields #[.none,.bool false,.ref s.heap.objs.size,rawInt 0,.none,.none] }) rfl
  rw[f]at this;exact this
 refine⟨⟨_,g,rfl⟩,h _ g ⟨_,A3 _ (C6 _ rfl),rfl,rfl⟩ (by rw[A0k,f]) fun b o x=>A3 _ (A3 _ x)⟩
end
end PySem
namespace L2
open PySem PySem.Spec PyProof.Rows
section
variable{X:Cx}{pins:T2}{σ:St}{H:Hp}{s:Uc}{h':Heap}
def Inv.turnLay{fp:Td}{a:Ud}{t':Nat}(I:Inv X pins σ H s)(g:∀b∈fp,pP X pins H b)(k:∀b u,b∉fp->s.heap.get? b=Z u->h'.get? b=Z u)(h:s.heap.objs.size<=a)(new:gM X.prog X.w (upd H a o) h' a o):
 Inv X pins σ (upd H a o) { s with heap:=h',toks:=t' }:=by
 have hn:H a=Y:=I.hok.fresh h;have i:∀b u,H b=Z u->b∉fp:=fun b u e z=>by rw[(g b z).1]at e;cases e
 refine I.step (g':=s.gens) (d':=s.drawn) (ch:=fp) (fun b f=>?_) (fun b o _ _ d e _=>k b o d e) (fun b o _ _ d e _=>⟨o.slots,k b o d e⟩) (fun b o _ e n=>?_) (fun b o d e=>⟨o,k b o d e⟩)
  (fun b xs e=>?_) (fun b o u e=>?_) (fun b ps e=>⟨#[],?_⟩) (fun m hm=>?_) ?_ I.bare
 .obtain⟨_,j,_,l,p,t⟩:=g b f;exact⟨l,j,p,t⟩
 .rw[aU (fun z=>by subst z;exact absurd (B7 e) (Nat.not_lt.mpr h))];exact n
 .rw[aU (aW e hn)];exact e
 .rw[aU (aW e hn)];exact e
 .rw[aU (aW e hn)];simpa using e
 .obtain⟨o,es,ep,x,r⟩:=hm;exact⟨o,es,ep,k _ o (fun z=>(g _ z).2.1 rfl) x,r⟩
 .intro b u e;by_cases f:b=a
  .subst f;rw[bA]at e;cases e;exact new
  .rw[aU f]at e;refine(I.hok b u e).stay (fun c v d q=>k c v ?_ q) (fun c q=>by rw[aU (aW q hn)];exact q) fun c xs q=>by rw[aU (aW q hn)];exact q
   rcases d with z|z
   .rw[z];exact i b _ e
   .exact i c _ z
def Inv.turnF{fp:Td}{t':Nat}(I:Inv X pins σ H s)(d:∀b∈fp,pP X pins H b)(k:∀b u,b∉fp->s.heap.get? b=Z u->h'.get? b=Z u):Inv X pins σ H { s with heap:=h',toks:=t' }:=by
 have f:∀b u,H b=Z u->b∉fp:=fun b u e z=>by rw[(d b z).1]at e;cases e
 refine I.step (g':=s.gens) (d':=s.drawn) (ch:=fp) (fun b g=>?_) (fun b o _ _ a e _=>k b o a e) (fun b o _ _ a e _=>⟨o.slots,k b o a e⟩) (fun _ _ _ _ n=>n) (fun b o a e=>⟨o,k b o a e⟩)
  (fun _ _ e=>e) (fun _ _ _ e=>e) (fun b ps e=>⟨#[],by simpa using e⟩) (fun m hm=>?_) (fun b u e=>?_) I.bare
 .obtain⟨_,h,_,i,j,l⟩:=d b g;exact⟨i,h,j,l⟩
 .obtain⟨o,es,ep,p,r⟩:=hm;exact⟨o,es,ep,k _ o (fun z=>(d _ z).2.1 rfl) p,r⟩
 .refine(I.hok b u e).stay (fun c v a q=>k c v ?_ q) (fun _ q=>q) fun _ _ q=>q;rcases a with z|z
  .rw[z];exact f b _ e
  .exact f c _ z
end
def Ite(Sq:Hp->Tf->Prop):It:=
 ⟨fun i H=>∃xs x,Sq H xs/\xs[i]?=Z x,fun i H v H'=>∃p x,H p=Y/\v=.ref p/\H'=upd H p (.tup [.int i,x])/\∀xs,Sq H xs->xs[i]?=Z x,fun i H=>∃xs,Sq H xs/\xs.length=i⟩
def tnE(e it:Ud)(It:Heap->Nat->Prop)(i:Nat)(h:Heap):Prop:=(∃a,IsEnum h e it i a)/\It h i
section
variable{P:Uf}{w:World}{K:Fg}{elts:Ta}{x1:Nat}{tpos:Pos}
def DH{e it a:Ud}{Sq:Hp->Tf->Prop}{It:Heap->Nat->Prop}(hei:e≠it)
 (hobj:∀h i,It h i->∃o vs,h.get? it=Z o/\o.data=.fields vs) (hkeep:∀h h' i,It h i->(∀o,h.get? it=Z o->h'.get? it=Z o)->It h' i)
 (hinj:∀(X:Cx),X.K=K->∀pins σ H s,Inv X pins σ H s->∀xs ys,Sq H xs->Sq H ys->xs=ys)
 (draw:∀(X:Cx),X.prog=P->X.w=w->X.K=K->X.calm=true->∀pins σ H s,Inv X pins σ H s->∀xs,Sq H xs->(∃o vs,s.heap.get? it=Z o/\o.data=.fields vs)->(∃o vs,s.heap.get? e=Z o/\o.data=.fields vs)->∃(its:T7)(fp:Td)(S:Nat->Heap->Prop),bH xs its/\e∉fp /\
  Draws P w X.A.in1 it fp its.length (fun i v=>its[i]?=Z v) S/\(∀i,It s.heap i->S i s.heap)/\∀i h,S i h->It h i):
 Turn P w K (.Tuple elts x1 tpos) (Ite Sq) [e,it] e (tnE e it It) where
 mem:=by simp
 obj:=fun i h st b hb=>by
  obtain⟨⟨old,h1⟩,h2⟩:=st;rcases List.mem_cons.mp hb with rfl|hb
  .exact⟨_,h1,fun v z=>by cases z⟩
  .obtain⟨o,vs,q1,q2⟩:=hobj _ _ h2;rw[List.mem_singleton.mp hb];exact⟨o,q1,fun v z=>by rw[q2]at z;cases z⟩
 keep:=fun i h h' st k=>by
  obtain⟨⟨old,h1⟩,h2⟩:=st;exact⟨⟨old,k e (by simp) _ h1⟩,hkeep _ _ _ h2 fun o q=>k it (by simp) o q⟩
 item:=by
  intro X hP hw hK hc i pins s σ H E I hf st hg;obtain⟨xs,x,hq,hx⟩:=hg;obtain⟨⟨old,he⟩,hit⟩:=st;obtain⟨its,fp,S,rv,hef,D,s1,s2⟩:=draw X hP hw hK hc pins σ H s I xs hq (hobj _ _ hit) ⟨_,_,he,rfl⟩;subst hP hw hK;obtain⟨u,hu,ru⟩:=rv.get hx;have hlt:i<its.length:=(List.getElem?_eq_some_iff.mp hu).1;refine wpAny_pyNext_enum_itemD D he (s1 _ hit) hlt hei hef fun v h1 tk hv ho st1 ht hsz hk=>⟨_,rfl,?_⟩;rw[hu]at hv;cases hv;refine wpAny_letOwnedTupleGo_enum ho fun h2 he2 sb=>?_;have ne:s.heap.objs.size≠e:=A0t (B7 he);have ht2:h2.get? s.heap.objs.size=Z { cls:=.type "tuple",data:=.seq #[.int i tk,u] }:=(sb.2 _ ne).trans ht
  have I2:Inv X pins σ (upd H s.heap.objs.size (.tup [.int i,x])) { s with heap:=h2,toks:=tk+1 }:=by
   refine I.turnLay hf (fun b o hb q=>(sb.2 b fun z=>hb (by simp[z])).trans (hk b o (fun z=>hb (by simp[z])) (fun z=>hb (by simp[z])) q)) (B4 _) ⟨by show 2<=sizeLine;rw[S7];decide,[.int i tk,u],.cons ⟨tk,rfl⟩ (.cons ru .nil),⟨_,ht2,rfl,_,rfl⟩⟩
  refine⟨.ref s.heap.objs.size,_,I2,rfl,⟨_,x,I.hok.fresh (B4 _),rfl,rfl,fun ys hy=>by rw[hinj X rfl _ _ _ _ I ys xs hy hq];exact hx⟩,⟨⟨_,by have:=he2;push_cast;exact this⟩,?_⟩,fun b hb=>?_⟩
  .exact hkeep _ _ _ (s2 _ _ st1) fun o q=>(sb.2 it (U3 hei)).trans q
  .have hb0:=(hf b hb).1;rw[aU (fun z=>?_)]
   .exact hb0
   .subst z;rcases List.mem_cons.mp hb with q|q
    .exact ne q
    .obtain⟨o,vs,q1,_⟩:=hobj _ _ hit;rw[<- List.mem_singleton.mp q]at q1;exact absurd (B7 q1) (L8 _)
 done:=by
  intro X hP hw hK hc i pins s σ H E I hf st hg;obtain⟨xs,hq,hx⟩:=hg;obtain⟨⟨old,he⟩,hit⟩:=st;obtain⟨its,fp,S,rv,hef,D,s1,s2⟩:=draw X hP hw hK hc pins σ H s I xs hq (hobj _ _ hit) ⟨_,_,he,rfl⟩;subst hP hw hK;have hl:=rv.length;rw[hl]at hx;subst hx;exact wpAny_pyNext_enum_endD D he (s1 _ hit) fun h1 hx=>⟨rfl,I.turnF (t':=s.toks) hf fun b o hb q=>hx b o (fun z=>hb (by simp[z])) q⟩
 self:=fun A i s Q E st h=>by
  obtain⟨⟨old,he⟩,_⟩:=st;exact wpAny_pyIter_enum he h
def LX{e it:Ud}(f:e≠it):Turn P w K (.Tuple elts x1 tpos) (Ite fun H xs=>SqL K H a xs) [e,it] e (tnE e it fun h i=>h.IsListIter it a i):=by
 refine DH (a:=a) f (fun h i st=>?_) (fun h h' i st k=>st.at k) (fun X g pins m H s I xs D r t=>?_) fun X u v g x pins m H s I xs y hi B=>?_
 .obtain⟨o,q,_,d⟩:=st;exact⟨o,_,q,d⟩
 .subst g;exact I.list_inj r t
 .subst u v g;obtain⟨c,C,p,E⟩:=I.list y
  have ne:∀b,(∃o vs,s.heap.get? b=Z o/\o.data=.fields vs)->a≠b:=fun b ⟨o,vs,q,d⟩ z=>by
   subst z;obtain⟨o',j,_,n,l⟩:=p.isList;rw[q]at j;cases j;rw[d]at l;cases l
  refine⟨c,[it,a],fun i h=>h.IsListIter it a i/\h.IsList a c.toArray,C,?_,?_,fun i st=>⟨st,p.isList⟩,fun i h st=>st.1⟩
  .intro z;rcases List.mem_cons.mp z with z|z
   .exact f z
   .exact ne e B (List.mem_singleton.mp z).symm
  .have:=Draws.list (prog:=X.prog) (w:=X.w) (A:=X.A.in1) (I.ok.hd x) it a (ne it hi) c.toArray;simpa using this
def LY{e it:Ud}(f:e≠it):Turn P w K (.Tuple elts x1 tpos) (Ite fun H xs=>SqT K H a xs) [e,it] e (tnE e it fun h i=>h.IsTupleIter it a i):=by
 refine DH (a:=a) f (fun h i st=>?_) (fun h h' i st k=>st.at k) (fun X g pins m H s I xs D r t=>?_) fun X u v g x pins m H s I xs y hi B=>?_
 .obtain⟨o,q,_,d⟩:=st;exact⟨o,_,q,d⟩
 .subst g;exact I.tuple_inj r t
 .subst u v g;obtain⟨c,C,p,E⟩:=I.tuple y;have pt:s.heap.IsTuple a c.toArray:=p
  have ne:∀b,(∃o vs,s.heap.get? b=Z o/\o.data=.fields vs)->a≠b:=fun b ⟨o,vs,q,d⟩ z=>by
   subst z;obtain⟨o',j,_,n,l⟩:=pt;rw[q]at j;cases j;rw[d]at l;cases l
  refine⟨c,[it,a],fun i h=>h.IsTupleIter it a i/\h.IsTuple a c.toArray,C,?_,?_,fun i st=>⟨st,pt⟩,fun i h st=>st.1⟩
  .intro z;rcases List.mem_cons.mp z with z|z
   .exact f z
   .exact ne e B (List.mem_singleton.mp z).symm
  .have:=oF (prog:=X.prog) (w:=X.w) (A:=X.A.in1) (I.ok.hd x) it a (ne it hi) c.toArray;simpa using this
end
section
variable{X:Cx}{elts:Ta}{x1:Nat}{tpos:Pos}
def aDX(K:Fg)(c:TA):TI:=fun d H R=>c d H fun vs b=>∃a,vs=[.ref a]/\((∃xs,SqL K b a xs/\R (Ite fun H xs=>SqL K H a xs) b)\/(∃xs,SqT K b a xs/\R (Ite fun H xs=>SqT K H a xs) b))
def aCj{a:Ue}{n:TA}{p pos:Pos}(o:Gl X "enumerate")(hm:X.mg "enumerate"=Y)(ha:PA X [a] n)(hs:starEach [a] X.env=[(false,eval a X.env)]:=by rfl):PI X (.Tuple elts x1 tpos) (.Call (.Name "enumerate" p) [a] [] pos) (aDX X.K n):=by
 intro pins s t H R I h;refine Call_ (jD I o hm boot_enumerate (J8 (thn (ha pos pins s t H _ I h) fun us s1 ⟨vs,i,c,u,v⟩=>?_) hs rfl));obtain⟨l,e,q⟩:=v;subst e;cases u with
 |cons r w=>
  cases w;cases (show _=Value.ref l from r)
  have fp:∀b∈[s1.heap.objs.size+1,s1.heap.objs.size],pP X pins i b:=fun b hb=>by
   rcases List.mem_cons.mp hb with rfl|hb
   .exact c.fpOk (A1d _) (c.hok.fresh (A1d _))
   .rw[List.mem_singleton.mp hb];exact c.fpOk (B4 _) (c.hok.fresh (B4 _))
  rcases q with⟨xs,j,q⟩|⟨xs,j,q⟩
  .obtain⟨f,x,p,y⟩:=c.list j;refine call_enumerate_list p.isList fun h' g d k m=>?_;refine wpAny_pyIter_enum g ?_;exact⟨_,_,_,_,i,rfl,c.kept (t':=s1.toks) m,LX (a:=l) (Nat.succ_ne_self _),⟨⟨_,g⟩,d⟩,fp,q⟩
  .obtain⟨f,x,p,y⟩:=c.tuple j;refine BU (show s1.heap.IsTuple l f.toArray from p) fun h' g d k m=>?_;refine wpAny_pyIter_enum g ?_;exact⟨_,_,_,_,i,rfl,c.kept (t':=s1.toks) m,LY (a:=l) (Nat.succ_ne_self _),⟨⟨_,g⟩,d⟩,fp,q⟩
end
noncomputable def rZ(ds:T6):T8:=ds.zipIdx.map fun p=>.d (.tuple [.int (p.2:Nat),p.1])
def sH(f:AF):AF:=fun a M=>(f a M).bind fun r=>match r.1 with
 |[.d x]=>(aJ x).bind fun ds=>Z (rZ ds,r.2)
 |_=>Y
def UR{i:Nat}{x:CD}(h:(rZ ds)[i]?=Z x):∃d,ds[i]?=Z d/\x=.d (.tuple [.int (i:Nat),d]):=by
 unfold rZ at h;rw[D6,List.getElem?_zipIdx]at h;cases e:ds[i]? with
 |none=>rw[e]at h;cases h
 |some d=>
  rw[e]at h;exact⟨d,rfl,by simpa using h.symm⟩
def aCT{K:Fg}{n:TA}{fa:AF}(b:SA K n fa):SI K (aDX K n) (sH fa):=by
 intro Q M xs M' a W H B R G Rs k;obtain⟨⟨S,M1⟩,C,a⟩:=aM a;refine b _ _ _ _ C W H B _ G Rs fun vs h q s j D=>?_;revert a;dsimp only;split
 .rename_i y;intro a;obtain⟨ds,E,a⟩:=aM a;cases a;cases D with
  |cons r I=>
   cases I;obtain⟨p,us,rfl,hs,t⟩:=jM (show Rep K h.F y _ from r) E
   have w:∀Sq:Hp->Tf->Prop,(∀c M2 e,h.Ext c->Good K c M2 e->Sq e us)->LI K (Ite Sq) (rZ ds) h:=fun Sq hS c M2 e f g=>by
    have l:=hS c M2 e f g;refine⟨fun i x J=>?_,us,l,by rw[show(rZ ds).length=ds.length by simp[rZ],t.length]⟩;obtain⟨d,hd,rfl⟩:=UR J;obtain⟨u,z,L⟩:=Paired.get (eW t) (show(ds.map CD.d)[i]?=Z (.d d)by rw[D6,hd];rfl);refine⟨⟨us,u,l,z⟩,fun v T N=>?_⟩;obtain⟨O,U,hn,rfl,rfl,m⟩:=N;have:=m us l;rw[z]at this;cases this;obtain⟨A,P⟩:=g.lay (o:=.tup [.int i,u]) hn;refine⟨_,A,P,⟨O,_,rfl,SqT.of bA,?_⟩⟩;exact⟨_,_,rfl,rfl,_,_,rfl,Rep.same A.ff _ _ (show Rep K c.F d u from(L.up f)),rfl⟩
   refine⟨p,rfl,?_⟩;rcases hs with hs|hs
   .exact .inl ⟨us,j.fh.seq hs,k _ h q s j (w _ fun c M2 e f g=>g.fh.seq (f.ff.seq hs))⟩
   .exact .inr ⟨us,j.fh.seqT hs,k _ h q s j (w _ fun c M2 e f g=>g.fh.seqT (f.ff.seqT hs))⟩
 .intro a;cases a
def yF{ι:Type}{K:Fg}{X:ι->Cx}{a:Ue}{fa:AF}{pos:Pos}{p:Pos}(c:∀i,(X i).K=K)(hm:∀i,(X i).mg "enumerate"=Y)(x:MA K X [a] fa)(d:∀i,Gl (X i) "enumerate":=by intro _;rfl):MI K X (.Tuple elts x1 tpos) (.Call (.Name "enumerate" p) [a] [] pos) (sH fa):=by
 obtain⟨t,b,e⟩:=x.ex;exact⟨_,fun i=>by have:=aCj (elts:=elts) (x1:=x1) (tpos:=tpos) (p:=p) (pos:=pos) (d i) (hm i) (b i) (x.st.1 _);rw[c i]at this;exact this,aCT e⟩
end L2
namespace PySem
open PySem.Calls PyProof.Rows
end PySem
namespace PySem
open PySem.Calls PyProof.Rows
end PySem
namespace PySem.W
open PySem PySem.Calls PyProof.Rows PyProof.V PySem.Spec
end PySem.W
namespace L2
variable{H:Hp}{W:Wd}
open PySem PySem.Spec PyProof.Rows
section
variable{X:Cx}{pins:T2}{σ:St}{H:Hp}{s:Uc}{E:T1}
end
section
variable{K:Fg}
def Good.freezeL{i:Nat}{ds:T6}(G:Good K W M H)(hi:M[i]?=Z (.lst xs))(hd:iU xs=Z ds):
 ∃W',W.Ext W'/\Good K W' (M.set i .dead) H/\W'.α i=W.α i/\dI K W' (.d (.list ds)) (.ref (W.α i)):=by
 obtain⟨vs,f,r⟩:=G.lstAt hi;obtain⟨hn,_⟩:=G.cs i _ hi (by intro q;cases q);have lt:i<M.length:=(List.getElem?_eq_some_iff.mp hi).1;have e:W.Ext { W with F:=upd W.F (W.α i) (.lst vs) }:=⟨kH.upd hn,B4 _,fun _ _=>rfl⟩
 have at_:∀j d,(M.set i .dead)[j]?=Z d->d≠.dead->j≠i/\M[j]?=Z d:=fun j d h hd=>by
  by_cases q:i=j
  .subst q;rw[E2 lt]at h;exact absurd (D7 h).symm hd
  .rw[D5 q]at h;exact⟨fun z=>q z.symm,h⟩
 refine⟨_,e,⟨fun c o a=>?_,by show W.n=_;rw[G.n,U2],fun j d b hd=>?_,fun j k g l b s m p t=>?_,G.tb.updF fun ps z=>by rw[f]at z;cases z⟩,rfl,⟨_,vs,rfl,SqL.of bA,aL.same e.ff _ _ (dZ hd r)⟩⟩
 .have a:upd W.F (W.α i) (.lst vs) c=Z o:=a;by_cases q:c=W.α i
  .subst q;rw[bA]at a;cases a;exact f
  .rw[aU q]at a;exact G.fh c o a
 .obtain⟨q,h⟩:=at_ j d b hd;obtain⟨v,u,w,x⟩:=G.cs j d h hd;have ne:W.α j≠W.α i:=fun z=>q (G.inj j i d _ h hi hd (by intro z;cases z) z);exact⟨by show upd W.F (W.α i) (.lst vs) (W.α j)=Y;rw[aU ne];exact v,u,w,x.up e⟩
 .exact G.inj j k g l (at_ j g b m).2 (at_ k l s p).2 m p t
def eE(f:EF):EF:=fun a M=>(f a M).bind fun r=>match r.1 with
 |.c i=>match r.2[i]? with
  |some (.lst xs)=>(iU xs).bind fun ds=>Z (.d (.list ds),r.2.set i .dead)
  |_=>Y
 |.d x=>Z (.d x,r.2)
 |_=>Y
def UE{t:TE}{f:EF}(a:SE K t f):SE K t (eE f):=by
 intro s M x M' b W H c Q G R k;obtain⟨⟨o,M1⟩,d,b⟩:=aM b;revert b;dsimp only;split
 .rename_i i;split
  .rename_i xs e;intro b;obtain⟨ds,g,b⟩:=aM b;cases b;refine a _ _ _ _ d W H c _ G R fun v u h j l m=>?_;obtain⟨n,p,q,_,r⟩:=l.freezeL e g;rw[m.2];exact k _ n h (j.trans p) q r
  .intro b;cases b
 .intro b;cases b;exact a _ _ _ _ d W H c _ G R k
 .intro b;cases b
def rK{ι:Type}{X:ι->Cx}{e:Ue}{f:EF}(x:ME K X e f):ME K X e (eE f):=by
 obtain⟨t,a,b⟩:=x.ex;exact⟨t,a,UE b⟩
def CL:FN:=fun xs M=>match xs with
 |[.d a]=>(aJ a).bind fun ds=>Z (.c M.length,M++[.lst (ds.map .d)])
 |[.c i]=>match M[i]? with
  |some (.lst b)=>Z (.c M.length,M++[.lst b])
  |_=>Y
 |_=>Y
def aBi:PN K (NO K) CL:=by
 intro xs M z M' h W H vs Q G r k;unfold CL at h;split at h
 .rename_i a;obtain⟨ds,g,h⟩:=aM h;cases h;rcases r with _|⟨b,_|_⟩;obtain⟨p,us,rfl,hs,e⟩:=jM (show Rep K W.F a _ from b) g;refine⟨p,us,rfl,hs.elim (fun q=>.inl (G.fh.seq q)) (fun q=>.inr (G.fh.seqT q)),fun l f=>?_⟩;exact k _ (W.more l) _ (W.ext_more l) (G.new f (c:=.lst (ds.map .d)) (o:=.lst us) (eW e)) G.newV
 .rename_i i;split at h
  .rename_i j m;cases h;rcases r with _|⟨b,_|_⟩;obtain⟨us,n,e⟩:=G.lstAt m;refine⟨_,us,by rw[b.2],.inl (SqL.of n),fun l f=>?_⟩;exact k _ (W.more l) _ (W.ext_more l) (G.new f (c:=.lst j) (o:=.lst us) e) G.newV
  .cases h
 .cases h
def aCl{ι:Type}{X:ι->Cx}(a:∀i,(X i).K=K):QN K X (.type "list") CL:=⟨_,fun i=>aDH (a i),aBi⟩
def eqC(neg:Bool):F2:=fun x y M=>(snap 5 M x).bind fun a=>(snap 5 M y).bind fun b=>if (SeqAt.shaped a&&SeqAt.shaped b)=true then Z (.d (.bool (if neg then !PyData.eqv a b else PyData.eqv a b)),M)else Y
def YR{neg:Bool}:P2 K (JG K neg) (eqC neg):=by
 intro x y M z M' h W H v u Q G c d k;obtain⟨a,e,h⟩:=aM h;obtain⟨b,f,h⟩:=aM h;by_cases hs:(SeqAt.shaped a&&SeqAt.shaped b)=true
 .rw[A4 hs]at h;cases h;rw[B8]at hs;exact⟨a,b,qH G 5 x a v e c,qH G 5 y b u f d,hs.1,hs.2,k _ W H (.refl _) G rfl⟩
 .rw[B2 hs]at h;cases h
def eqY(neg:Bool):F2:=EZ (eqX neg) (eqC neg)
def aIF{ι:Type}{X:ι->Cx}(a:∀i,(X i).K=K)(b:∀i,(X i).A.units+64<cLine):Q2 K X (compareOp .Eq) (eqY false):=⟨_,fun i=>(kEq (a i) (b i)).or (show OpR (X i) (compareOp .Eq) (JG K false)by have:=aAk (X:=X i) (b i);rw[a i]at this;exact this),P2.or VW YR⟩
def WM{ι:Type}{X:ι->Cx}(a:∀i,(X i).K=K)(b:∀i,(X i).A.units+64<cLine):Q2 K X (compareOp .NotEq) (eqY true):=⟨_,fun i=>(kNe (a i) (b i)).or (show OpR (X i) (compareOp .NotEq) (JG K true)by have:=aAX (X:=X i) (b i);rw[a i]at this;exact this),P2.or VP YR⟩
end
abbrev IPF:=Ga->Sto->Tz ((T8×(Sto->Prop))×Sto)
def aHg(K:Fg)(J:It)(P:Sto->Prop)(xs:T8)(W:Wd):Prop:=∀W' M' H',W.Ext W'->Good K W' M' H'->P M'->
 (∀i x,xs[i]?=Z x->J.go i H'/\∀y b,J.yld i H' y b->∃a,W'.Ext a/\Good K a M' b/\dI K a x y)/\J.stop xs.length H'
def SIP(K:Fg)(wi:TI)(f:IPF):Prop:=∀a M xs P M',f a M=Z ((xs,P),M')->∀(W:Wd)(H:Hp)(b:St)(R:It->Hp->Prop),Good K W M H->dA K W a b->(∀J W' H',W.Ext W'->Good K W' M' H'->aHg K J P xs W'->R J H')->wi b H R
def walked(M:Sto):CD->Tz (T8×(Sto->Prop))
 |.d x=>(aJ x).bind fun ds=>Z (ds.map .d,fun _=>True)
 |.c i=>match M[i]? with
  |some (.lst xs)=>Z (xs,fun M'=>M'[i]?=Z (.lst xs))
  |_=>Y
 |_=>Y
def uM(f:EF):IPF:=fun a M=>(f a M).bind fun r=>(walked r.2 r.1).bind fun p=>Z (p,r.2)
section
variable{K:Fg}{ta:TE}{f:EF}{fp:IPF}{tg:TG}{hg:GF}{t:TS}{p:SF}
def NN{M:Sto}{x:CD}{v:V}{xs:T8}{P:Sto->Prop}(h:walked M x=Z (xs,P))(G:Good K W M H)(r:dI K W x v):
 ∃a,v=.ref a/\((∃vs,SqL K H a vs)/\(∀W' M' H',W.Ext W'->Good K W' M' H'->P M'->∃vs,SqL K H' a vs/\bK K W' xs vs)\/(∃vs,SqT K H a vs)/\∀W' M' H',W.Ext W'->Good K W' M' H'->P M'->∃vs,SqT K H' a vs/\bK K W' xs vs):=by
 unfold walked at h;split at h
 .rename_i y;obtain⟨ds,j,h⟩:=aM h;cases h;obtain⟨a,vs,rfl,hs,c⟩:=jM (show Rep K W.F y v from r) j;refine⟨a,rfl,?_⟩;rcases hs with hs|hs
  .exact .inl ⟨⟨vs,G.fh.seq hs⟩,fun W' M' H' e b _=>⟨vs,b.fh.seq (e.ff.seq hs),bK.up (eW c) e⟩⟩
  .exact .inr ⟨⟨vs,G.fh.seqT hs⟩,fun W' M' H' e b _=>⟨vs,b.fh.seqT (e.ff.seqT hs),bK.up (eW c) e⟩⟩
 .rename_i i;split at h
  .rename_i n k;cases h;obtain⟨vs,l,c⟩:=G.lstAt k;refine⟨_,r.2,.inl ⟨⟨vs,SqL.of l⟩,fun W' M' H' e b m=>?_⟩⟩;obtain⟨us,g,d⟩:=b.lstAt m;rw[e.al i r.1]at g;exact⟨us,SqL.of g,d⟩
  .cases h
 .cases h
def aDm(a:SE K ta f):SIP K (aBv K ta) (uM f):=by
 intro N M xs P M' d W H E R G Rs k;obtain⟨⟨y,M1⟩,F,d⟩:=aM d;obtain⟨q,I,d⟩:=aM d;cases d;refine a _ _ _ _ F W H E _ G Rs fun v B C D n J=>?_;obtain⟨l,rfl,e⟩:=NN I n J;refine⟨l,rfl,?_⟩;rcases e with⟨⟨vs,o⟩,e⟩|⟨⟨vs,o⟩,e⟩
 .refine .inl ⟨vs,o,k _ B C D n fun g M2 r s h w=>?_⟩;obtain⟨us,c,j⟩:=e g M2 r s h w;refine⟨fun i x z=>?_,us,c,by rw[Paired.len j];exact B4 _⟩;obtain⟨u,b,A⟩:=Paired.get j z;refine⟨⟨us,u,c,b⟩,fun y L m=>⟨g,.refl _,by rw[m.1];exact h,?_⟩⟩;have:=m.2 us c;rw[b]at this;cases this;exact A
 .refine .inr ⟨vs,o,k _ B C D n fun g M2 r s h w=>?_⟩;obtain⟨us,c,j⟩:=e g M2 r s h w;refine⟨fun i x z=>?_,us,c,by rw[Paired.len j];exact B4 _⟩;obtain⟨u,b,A⟩:=Paired.get j z;refine⟨⟨us,u,c,b⟩,fun y L m=>⟨g,.refl _,by rw[m.1];exact h,?_⟩⟩;have:=m.2 us c;rw[b]at this;cases this;exact A
end
section
variable{X:Cx}{a b:Ue}{ta:TA}{p p' pos pos':Pos}
noncomputable def pX(lo:Int)(n:Nat):Tf:=(List.range n).map fun(i:Nat)=>V.int (lo+(i:Nat))
def DP{lo:Int}{acc:Tl}(h:ItemsOf (fun i v=>∃t,v=.int (lo+i*1) t) acc n):bH (pX lo n) acc.toList:=by
 have f:∀(k:Nat)(l:T7)(m:Nat),l.length=k->(∀j v,l[j]?=Z v->∃t,v=Value.int (lo+((m+j:Nat):Int)*1) t)->bH ((List.range' m k).map fun(i:Nat)=>V.int (lo+(i:Nat))) l:=by
  intro k
  induction k with
  |zero=>intro l m c _;rw[List.eq_nil_of_length_eq_zero c];exact .nil
  |succ k ih=>
   intro l m c d
   match l,c,d with
   |v::l,c,d=>
    obtain⟨t,rfl⟩:=d 0 v rfl;rw[List.range'_succ,B6];refine .cons ⟨t,by simp⟩ (ih l (m+1) (Nat.succ.inj c) fun j v e=>?_);obtain⟨o,g⟩:=d (j+1) v e;exact⟨o,by rw[g];congr 2;omega⟩
 have:=f n acc.toList 0 (by rw[A1h];exact h.1) fun j v e=>by
  obtain⟨t,g⟩:=h.2 j v (by rw[<- Z9];exact e);exact⟨t,by rw[g,A1k]⟩
 unfold pX;rw[A1e];exact this
def VJ{Q:VK}{lo hi:Int}{t u v:Tok}{tk:Nat}(k:X.calm=true)(I:Inv X pins f H s)(m:-(2 ^ 62)<=lo)(r:lo<2 ^ 62)(y:-(2 ^ 62)<=hi)(h4:hi<2 ^ 62)(g:(hi-lo).toNat<=sizeLine)
 (q:∀l,H l=Y->Q (.ref l) (upd H l (.lst (pX lo (hi-lo).toNat)))):
 wpAny (model X.prog X.w) X.A (call (.type "list") [.ref s.heap.objs.size]) (fun v z=>∃x H',Inv X pins f H' z/\RelV x v/\Q x H') X.xe { s with heap:=s.heap.push { cls:=.type "range",data:=.fields #[.int lo t,.int hi u,.int 1 v] },toks:=tk }:=by
 have h:(hi-lo).toNat<=2 ^ 24:=by rw[S7]at g;exact g
 refine call_list_range (n:=(hi-lo).toNat) (I.ok.hd k) (IsRange.new ..) (small_one m r y h4) (by rw[rangeSize_one];split<;>omega) h fun h' i acc c B hS d=>?_;have j:Inv X pins f H { s with heap:=s.heap.push { cls:=.type "range",data:=.fields #[.int lo t,.int hi u,.int 1 v] },toks:=tk }:=I.kept fun b o e=>A3 _ e;refine⟨.ref _,upd H _ (.lst (pX lo (hi-lo).toNat)),j.laid (t':=i) B (B4 _) ⟨by rw[pX,A0,E8];exact g,acc.toList,c,DP d,by simpa using hS⟩,rfl,q _ (j.hok.fresh (B4 _))⟩
end
section
variable{K:Fg}{tA:TA}{fa:AF}
noncomputable def DX(lo:Int)(n:Nat):T6:=(List.range n).map fun(i:Nat)=>.int (lo+(i:Nat))
def PP{lo:Int}:aL K H (DX lo n) (pX lo n):=by
 unfold DX pX;generalize List.range n=l
 induction l with
 |nil=>rfl
 |cons i l ih=>exact⟨_,_,rfl,rfl,ih⟩
def SR{lo:Int}:bK K W (iE lo n) (pX lo n):=by
 unfold iE pX;generalize List.range n=l
 induction l with
 |nil=>exact .nil
 |cons i l ih=>exact .cons rfl ih
end
def Itz(K:Fg)(l1 l2:Ud):It:=
 ⟨fun i H=>∃xs a x y,SqL K H l1 xs/\SqL K H l2 a/\xs[i]?=Z x/\a[i]?=Z y,
  fun i H v H'=>∃p x y,H p=Y/\v=.ref p/\H'=upd H p (.tup [x,y])/\(∀xs,SqL K H l1 xs->xs[i]?=Z x)/\∀a,SqL K H l2 a->a[i]?=Z y,
  fun i H=>∃xs a,SqL K H l1 xs/\SqL K H l2 a/\(xs[i]?=Y\/a[i]?=Y)⟩
def tnZ(z TI TO i1 i2 l1 l2:Ud)(i:Nat)(h:Heap):Prop:=IsZip h z TI TO .none/\IsPair h TI (.ref i1) (.ref i2)/\(∃a b,IsPair h TO a b)/\h.IsListIter i1 l1 i/\h.IsListIter i2 l2 i
structure Apart5(z TI TO i1 i2:Ud):Prop where
 TIz:TI≠z
 TOz:TO≠z
 i1z:i1≠z
 i2z:i2≠z
 TITO:TI≠TO
 TIi1:TI≠i1
 TIi2:TI≠i2
 TOi1:TO≠i1
 TOi2:TO≠i2
 i12:i1≠i2
def CY(n:Nat):Apart5 (n+4) (n+2) (n+3) n (n+1):=by
 have c:∀a b:Nat,¬a=b->(a:Ud)≠b:=fun _ _ h=>h;exact⟨c _ _ (by omega),c _ _ (by omega),c _ _ (by omega),c _ _ (by omega),c _ _ (by omega),c _ _ (by omega),c _ _ (by omega),c _ _ (by omega),c _ _ (by omega),c _ _ (by omega)⟩
section
variable{P:Uf}{w:World}{K:Fg}{elts:Ta}{x1:Nat}{tpos:Pos}{z TI TO i1 i2 l1 l2:Ud}
def DM(c:Apart5 z TI TO i1 i2)(st:tnZ z TI TO i1 i2 l1 l2 i h)(g:h.IsList l1 xs)(j:h.IsList l2 ys):ZipApart z TI TO i1 i2 l1 l2:=by
 obtain⟨m,x,⟨a,b,f⟩,⟨A,p,r,B⟩,⟨C,s,t,D⟩⟩:=st
 have d:∀(l:Ud)(ws:Tl),h.IsList l ws->∀(b:Ud)(o:Obj),h.get? b=Z o->o.cls≠.type "list"->l≠b:=fun l ws y b o e n q=>by
  subst q;obtain⟨o',u,c',_⟩:=y;rw[e]at u;cases u;exact n c'
 have v:(Value.type "zip")≠.type "list":=by intro q;injection q with q;exact absurd q (by decide)
 have nt:(Value.type "tuple")≠.type "list":=by intro q;injection q with q;exact absurd q (by decide)
 have k:(Value.type "list_iterator")≠.type "list":=by intro q;injection q with q;exact absurd q (by decide)
 exact⟨c.TIz,c.TOz,c.i1z,c.i2z,c.TITO,c.TIi1,c.TIi2,c.TOi1,c.TOi2,c.i12,
  d l1 xs g z _ m v,d l1 xs g TO _ f nt,d l1 xs g i1 _ p (by rw[r];exact k),d l1 xs g i2 _ s (by rw[t];exact k),
  d l2 ys j z _ m v,d l2 ys j TO _ f nt,d l2 ys j i1 _ p (by rw[r];exact k),d l2 ys j i2 _ s (by rw[t];exact k)⟩
def aAi(A5:Apart5 z TI TO i1 i2):Turn P w K (.Tuple elts x1 tpos) (Itz K l1 l2) [z,TI,TO,i1,i2] z (tnZ z TI TO i1 i2 l1 l2) where
 mem:=by simp
 obj:=fun i h st b hb=>by
  obtain⟨hz,hTI,⟨a,c,hTO⟩,⟨o1,e1,_,d1⟩,⟨o2,e2,_,d2⟩⟩:=st;simp only[List.mem_cons,List.not_mem_nil,or_false]at hb;rcases hb with rfl|rfl|rfl|rfl|rfl
  .exact⟨_,hz,fun v q=>by cases q⟩
  .exact⟨_,hTI,fun v q=>by cases q⟩
  .exact⟨_,hTO,fun v q=>by cases q⟩
  .exact⟨_,e1,fun v q=>by rw[d1]at q;cases q⟩
  .exact⟨_,e2,fun v q=>by rw[d2]at q;cases q⟩
 keep:=fun i h h' st k=>by
  obtain⟨hz,hTI,⟨a,c,hTO⟩,h1,h2⟩:=st;exact⟨k z (by simp) _ hz,k TI (by simp) _ hTI,⟨a,c,k TO (by simp) _ hTO⟩,h1.at fun o e=>k i1 (by simp) o e,h2.at fun o e=>k i2 (by simp) o e⟩
 item:=by
  intro X hP hw hK hc i pins s σ H E I hf st hg;subst hP hw hK;obtain⟨xs,ys,x,y,hq1,hq2,hx,hy⟩:=hg;obtain⟨its,rv,p,_⟩:=I.list hq1;obtain⟨jts,rw',p',_⟩:=I.list hq2;obtain⟨u,hu,ru⟩:=rv.get hx;obtain⟨v,hv,rv'⟩:=rw'.get hy;have D:=DM A5 st p.isList p'.isList;obtain⟨hz,hTI,⟨a,c,hTO⟩,h1,h2⟩:=id st;refine wpAny_pyNext_zip_item D hz hTI hTO h1 h2 p.isList p'.isList (x:=u) (y:=v) (by simpa using hu) (by simpa using hv) fun h' a1 a2 a3 a4 a5 a6 hk=>⟨_,rfl,?_⟩;refine wpAny_letOwnedTupleGo_zip a1 fun h2' hz2 sb=>?_
  have lt:∀b∈[z,TI,TO,i1,i2],s.heap.objs.size≠b:=fun b hb q=>by
   obtain⟨o1,e1,_⟩:=id h1;obtain⟨o2,e2,_⟩:=id h2;simp only[List.mem_cons,List.not_mem_nil,or_false]at hb
   have:∃o,s.heap.get? b=Z o:=by
    rcases hb with rfl|rfl|rfl|rfl|rfl
    .exact⟨_,hz⟩
    .exact⟨_,hTI⟩
    .exact⟨_,hTO⟩
    .exact⟨_,e1⟩
    .exact⟨_,e2⟩
   obtain⟨o,e⟩:=this;rw[<- q]at e;exact absurd (B7 e) (L8 _)
  have kk:∀b o,b∉[z,TI,TO,i1,i2]->s.heap.get? b=Z o->h2'.get? b=Z o:=fun b o hb q=>by
   simp only[List.mem_cons,List.not_mem_nil,or_false,not_or]at hb;exact(sb.2 b hb.1).trans (hk b o hb.1 hb.2.2.1 hb.2.2.2.1 hb.2.2.2.2 q)
  have ht2:h2'.get? s.heap.objs.size=Z { cls:=.type "tuple",data:=.seq #[u,v] }:=(sb.2 _ (lt z (by simp))).trans a5
  have I2:Inv X pins σ (upd H s.heap.objs.size (.tup [x,y])) { s with heap:=h2',toks:=s.toks }:=
   I.turnLay hf kk (B4 _) ⟨by show 2<=sizeLine;rw[S7];decide,[u,v],.cons ru (.cons rv' .nil),⟨_,ht2,rfl,_,rfl⟩⟩
  refine⟨.ref s.heap.objs.size,_,I2,rfl,⟨_,x,y,I.hok.fresh (B4 _),rfl,rfl,fun ws hw=>by rw[I.list_inj hw hq1];exact hx,fun ws hw=>by rw[I.list_inj hw hq2];exact hy⟩,⟨hz2,?_,⟨_,_,(sb.2 TO A5.TOz).trans a2⟩,a3.at fun o e=>(sb.2 i1 A5.i1z).trans e,a4.at fun o e=>(sb.2 i2 A5.i2z).trans e⟩,fun b hb=>?_⟩
  .exact(sb.2 TI A5.TIz).trans (hk TI _ A5.TIz A5.TITO A5.TIi1 A5.TIi2 hTI)
  .rw[aU (fun q=>lt b hb q.symm)];exact(hf b hb).1
 done:=by
  intro X hP hw hK hc i pins s σ H E I hf st hg;subst hP hw hK;obtain⟨xs,ys,hq1,hq2,hend⟩:=hg;obtain⟨its,rv,p,_⟩:=I.list hq1;obtain⟨jts,rw',p',_⟩:=I.list hq2;have D:=DM A5 st p.isList p'.isList;obtain⟨hz,hTI,⟨a,c,hTO⟩,h1,h2⟩:=id st;have l1':=rv.length;have l2':=rw'.length;refine wpAny_pyNext_zip_end (I.ok.hd hc) D hz hTI hTO h1 h2 p.isList p'.isList ?_ fun h' hk=>⟨rfl,I.turnF (t':=s.toks) hf fun b o hb q=>?_⟩
  .rcases hend with e|e
   .refine .inl ?_;have:=List.getElem?_eq_none_iff.mp e;exact Array.getElem?_eq_none (by rw[C5];omega)
   .refine .inr ?_;have:=List.getElem?_eq_none_iff.mp e;exact Array.getElem?_eq_none (by rw[C5];omega)
  .simp only[List.mem_cons,List.not_mem_nil,or_false,not_or]at hb;exact hk b o hb.1 hb.2.2.1 hb.2.2.2.1 hb.2.2.2.2 q
 self:=fun A i s Q E st h=>wpAny_pyIter_zip st.1 h
end
section
variable{X:Cx}{elts:Ta}{x1:Nat}{tpos:Pos}
def boot_zip:bootBuiltins "zip"=Z (.type "zip"):=by decide +kernel
end
noncomputable def nE:T6->T6->T8
 |x::xs,y::a=>.d (.tuple [x,y])::nE xs a
 |_,_=>[]
def zN:∀{xs ys:T6}{i:Nat}{x:CD},(nE xs ys)[i]?=Z x->∃a b,xs[i]?=Z a/\ys[i]?=Z b/\x=.d (.tuple [a,b])
 |[],_,i,x=>fun h=>by unfold nE at h;cases i<;>cases h
 |_::_,[],i,x=>fun h=>by unfold nE at h;cases i<;>cases h
 |a::xs,b::ys,0,x=>fun h=>⟨a,b,rfl,rfl,by unfold nE at h;exact(D7 h).symm⟩
 |a::xs,b::ys,i+1,x=>fun h=>by
  obtain⟨c,d,e,f,g⟩:=zN (xs:=xs) (ys:=ys) (i:=i) (by unfold nE at h;exact h);exact⟨c,d,e,f,g⟩
def JY:∀{xs ys:T6},xs[(nE xs ys).length]?=Y\/ys[(nE xs ys).length]?=Y
 |[],_=>.inl rfl
 |_::_,[]=>.inr rfl
 |a::xs,b::ys=>by
  show(a::xs)[(nE xs ys).length+1]?=Y\/(b::ys)[(nE xs ys).length+1]?=Y;exact JY (xs:=xs) (ys:=ys)
end L2
namespace PySem
open Sem (wp)
namespace F
end F
end PySem
namespace L2
open PySem PySem.Spec PyProof.Rows
def eJ.le{ι:Type}{j:Nat}(r:eJ k A q)(h:j<=k:=by decide):ι->eJ j A q:=fun _=>r.mono h
section
variable{K:Fg}
def inC(neg:Bool):F2:=fun x y M=>(snap 5 M x).bind fun a=>(snap 5 M y).bind fun b=>(aJ b).bind fun ds=>if (SeqAt.shaped a&&ds.all SeqAt.shaped)=true then Z (.d (.bool (if neg then !ds.any fun d=>PyData.eqv d a else ds.any fun d=>PyData.eqv d a)),M)else Y
def aGS{neg:Bool}:P2 K (UJ K neg) (inC neg):=by
 intro x y M z M' h W H v u Q G c d k;obtain⟨a,e,h⟩:=aM h;obtain⟨b,f,h⟩:=aM h;obtain⟨ds,g,h⟩:=aM h;by_cases hs:(SeqAt.shaped a&&ds.all SeqAt.shaped)=true
 .rw[A4 hs]at h;cases h;rw[B8]at hs;obtain⟨p,vs,rfl,i,j⟩:=jM (qH G 5 y b u f d) g;exact⟨a,ds,p,vs,qH G 5 x a v e c,rfl,i,j,hs.1,hs.2,k _ W H (.refl _) G rfl⟩
 .rw[B2 hs]at h;cases h
def YO{ι:Type}{X:ι->Cx}(a:∀i,(X i).K=K)(b:∀i,(X i).A.in1.units+64<cLine):Q2 K X (compareOp .NotIn) (inC true):=⟨_,fun i=>VA (a i) (b i),aGS⟩
end
def nU:∀{xs ys:T9},xs.Pairwise (·<=·)->ys.Pairwise (·<=·)->xs.Perm ys->xs=ys
 |[],ys=>fun _ _ p=>(List.nil_perm.mp p).symm
 |x::xs,[]=>fun _ _ p=>by have:=p.length_eq;simp at this
 |x::xs,y::ys=>fun f g p=>by
  have c:=List.pairwise_cons.mp f;have d:=List.pairwise_cons.mp g
  have e:x=y:=by
   have a:y<=x:=by
    rcases List.mem_cons.mp (p.mem_iff.mp A9)with q|q
    .exact Int.le_of_eq q.symm
    .exact d.1 x q
   have b:x<=y:=by
    rcases List.mem_cons.mp (p.mem_iff.mpr A9)with q|q
    .exact Int.le_of_eq q.symm
    .exact c.1 y q
   omega
  subst e;rw[nU c.2 d.2 (List.perm_cons x |>.mp p)]
noncomputable def dW(ns:T9):T9:=ns.mergeSort fun a b=>decide (a<=b)
def eL(ns:T9):(dW ns).Perm ns:=List.mergeSort_perm _ _
def lB(ns:T9):(dW ns).Pairwise (·<=·):=by
 have:=List.pairwise_mergeSort (le:=fun a b:Int=>decide (a<=b)) (fun a b c d e=>C7 (Int.le_trans (D9 d) (D9 e))) (fun a b=>by simp;omega) ns;exact this.imp fun h=>D9 h
section
variable{K:Fg}
def WE(k:Nat)(γ:Ga)(M:Sto):Tz (Ga×Sto):=match γ[k]? with
 |some (some (.c i))=>match M[i]? with
  |some (.lst xs)=>(iU xs).bind fun ds=>Z (γ.set k (Z (.d (.list ds))),M.set i .dead)
  |_=>Y
 |_=>Y
def aAa(k:Nat)(f:SF):SF:=fun b M=>(f b M).bind fun r=>match r.1 with
 |.nx a=>(WE k a r.2).bind fun q=>Z (.nx q.1,q.2)
 |o=>Z (o,r.2)
def AV{a b:Type}{R:a->b->Prop}:∀{xs:Tx a}{ys:Tx b}{k:Nat}{x:a}{y:b},Paired R xs ys->ys[k]?=Z y->R x y->Paired R (xs.set k x) ys
 |_,_,0,x,y,.cons r t=>fun e h=>by cases e;exact .cons h t
 |_,_,k+1,x,y,.cons r t=>fun e h=>.cons r (AV t (by simpa using e) h)
 |_,_,0,x,y,.nil=>fun e h=>by cases e
 |_,_,k+1,x,y,.nil=>fun e h=>by cases e
def aGG{t:TS}{f:SF}{k:Nat}(a:SS K t f):SS K t (aAa k f):=by
 intro I M o M' b W H r D G R c;obtain⟨⟨s,M1⟩,u,b⟩:=aM b;refine a _ _ _ _ u W H r D G R fun g h j l=>?_;cases s with
 |nx e=>
  obtain⟨⟨w,M2⟩,d,b⟩:=aM (show(WE k e M1).bind _=_ from b);cases b;unfold WE at d;split at d
  .rename_i i hi;split at d
   .rename_i xs z;obtain⟨ds,A,d⟩:=aM d;cases d;intro m n;obtain⟨B,p,C,_,E⟩:=l.freezeL z A;obtain⟨y,F,q⟩:=Paired.get n hi;refine c B h (j.trans p) C m ?_;cases y with
    |none=>exact False.elim q
    |some v=>
     refine AV (n.up p) F ?_;rw[show v=.ref (g.α i)from q.2];exact E
   .cases d
  .cases d
 |bk e=>cases b;exact c g h j l
 |ct e=>cases b;exact c g h j l
 |rt x=>cases b;exact c g h j l
end
section
variable{ι:Type}{K:Fg}{X:ι->Cx}{e a:Ue}{es:Ta}{f:EF}{fa:AF}{sf:SF}{st:Stmt}{pos:Pos}
def aFh(k:Nat)(x:MS K X st sf):MS K X st (aAa k sf):=by
 obtain⟨t,b,c⟩:=x.ex;exact⟨_,b,aGG c⟩
end
open Classical in
noncomputable def lcP(P:Sto->Prop)(g:GF)(c:TF)(e:EF):T8->Ga->Sto->Tz (T8×Sto)
 |[],d,M=>if P M then Z ([],M)else Y
 |x::xs,d,M=>if P M then(g x d M).bind fun a=>(c a.1 a.2).bind fun b=>if b.1=true then(e a.1 b.2).bind fun r=>(lcP P g c e xs a.1 r.2).bind fun q=>Z (r.1::q.1,q.2)else lcP P g c e xs a.1 b.2 else Y
noncomputable def WA(cap:T5)(f:IPF)(g:GF)(c:TF)(e:EF):AF:=fun a M=>(f a M).bind fun r=>if r.1.1.length<=sizeLine then lcP r.1.2 g c e r.1.1 (jS cap a) r.2 else Y
noncomputable def aHo(cap:T5)(f:IPF)(g:GF)(c:TF)(e:EF):EF:=dS (WA cap f g c e)
section
variable{K:Fg}{tg:TG}{tt:TT}{hg:GF}{ft:TF}{fa:IPF}{te:TE}{fe:EF}
def YT{P:Sto->Prop}{r:T8×Sto}(h:lcP P hg ft fe xs γ M=Z r):P M:=by
 by_cases a:P M
 .exact a
 .cases xs<;>unfold lcP at h<;>rw[B2 a]at h<;>cases h
def HL{P:Sto->Prop}:∀{xs:T8}{γ:Ga}{M:Sto}{ys:T8}{M':Sto},lcP P hg ft fe xs γ M=Z (ys,M')->ys.length<=xs.length
 |[],γ,M,ys,M'=>fun h=>by
  have a:=YT h;unfold lcP at h;rw[A4 a]at h;cases h;exact B4 _
 |x::xs,γ,M,ys,M'=>fun h=>by
  have a:=YT h;unfold lcP at h;rw[A4 a]at h;obtain⟨⟨c,M1⟩,_,h⟩:=aM h;obtain⟨⟨b,M2⟩,_,h⟩:=aM h;cases b with
  |true=>
   rw[A4 rfl]at h;obtain⟨⟨z,d⟩,_,h⟩:=aM h;obtain⟨⟨e,f⟩,h4,h⟩:=aM h;cases h;have:=HL h4;simp only[List.length_cons];omega
  |false=>
   rw[B2 A7]at h;have:=HL h;simp only[List.length_cons];omega
def aFO{wi:TI}{cap:T5}(i:SIP K wi fa)(a:SG K tg hg)(c:STt K tt ft)(b:SE K te fe):SE K (tLc cap wi tg tt te) (aHo cap fa hg ft fe):=by
 intro γ M x M' B W H σ Q G R k;obtain⟨⟨xs,D⟩,h8,B⟩:=aM B;have B:(if xs.length<=sizeLine then Z (CD.c D.length,D++[Cell.lst xs])else Y)=Z (x,M'):=B;obtain⟨⟨⟨l,P⟩,M1⟩,h1,t⟩:=aM h8;have t:(if l.length<=sizeLine then lcP P hg ft fe l (jS cap γ) M1 else Y)=Z (xs,D):=t;by_cases U:l.length<=sizeLine
 .rw[A4 U]at t;rw[A4 (O7 (HL t) U)]at B;cases B;refine i _ _ _ _ _ h1 W H σ _ G R fun J W1 H1 e1 G1 gv=>?_
  refine⟨fun j m acc u H'=>∃w M2 s pre n,j<=l.length/\m=l.length-j/\acc.length<=j/\W1.Ext s/\Good K s M2 H'/\dA K s w u/\bK K s pre acc/\pre++n=xs/\lcP P hg ft fe (l.drop j) w M2=Z (n,D),
   ⟨_,jS cap γ,M1,W1,[],xs,E9 _,rfl,E9 _,.refl _,G1,AQ (R.up e1) cap,.nil,rfl,t⟩,?_⟩
  rintro j m acc u H' ⟨w,M2,s,pre,n,hj,rfl,a5,V,X,R2,rp,L,d⟩;have hP:=YT d;obtain⟨a0,a1⟩:=gv s M2 H' V X hP;by_cases A:j<l.length
  .obtain⟨go,yl⟩:=a0 j l[j] (B1 A);rw[Y7 A]at d;unfold lcP at d;rw[A4 hP]at d;refine .inr ⟨go,by omega,fun h E N=>∃q O C f g,h.length<=j+1/\s.Ext C/\Good K C O N/\dA K C q E/\bK K C f h/\f++g=xs/\lcP P hg ft fe (l.drop (j+1)) q O=Z (g,D),?_,fun y N hy=>?_⟩
   .rintro h E N ⟨q,O,C,f,g,a2,e3,G3,R3,a3,a4,h3⟩;exact⟨_,by omega,q,O,C,f,g,A,rfl,a2,V.trans e3,G3,R3,a3,a4,h3⟩
   .obtain⟨W8,e8,G8,ry⟩:=yl y N hy;obtain⟨⟨F,M4⟩,h4,d⟩:=aM d;obtain⟨⟨b5,M5⟩,h5,d⟩:=aM d;refine a _ _ _ _ _ h4 W8 _ u y _ G8 (R2.up e8) ry fun I W4 H4 e4 G4 S=>?_;refine c _ _ _ _ h5 W4 H4 I _ G4 S fun W5 H5 T G5=>?_;have r:=(e8.trans e4).trans T;cases b5 with
    |true=>
     rw[A4 rfl]at d;obtain⟨⟨z,M6⟩,h6,d⟩:=aM d;obtain⟨⟨zs,M7⟩,h7,d⟩:=aM d;cases d;refine .inl ⟨rfl,b _ _ _ _ h6 W5 H5 I _ G5 (S.up T) fun v W6 H6 e6 G6 r6=>?_⟩;exact⟨F,M6,W6,pre++[z],zs,by rw[A6];simp only[List.length_singleton];omega,r.trans e6,G6,S.up (T.trans e6),Paired.app (bK.up rp (r.trans e6)) (.cons r6 .nil),by rw[<- L,F0];rfl,h7⟩
    |false=>
     rw[B2 A7]at d;exact .inr ⟨rfl,F,M5,W5,pre,n,by omega,r,G5,S.up T,bK.up rp r,L,d⟩
  .have e:j=l.length:=by omega
   subst e;rw[A0z]at d;unfold lcP at d;rw[A4 hP]at d;cases d;rw[D8]at L;subst L;exact .inl ⟨a1,fun p hp=>k _ _ _ ((e1.trans V).trans (s.ext_more p)) (X.new hp (c:=.lst pre) (o:=.lst acc) rp) X.newV⟩
 .rw[B2 U]at t;cases t
end
section
variable{ι:Type}{K:Fg}{X:ι->Cx}{N':Te}{cap:T5}{scope:Scope}{tg iter elt:Ue}{ifs:Ta}{f fi:EF}{gf:GF}{ft:TF}{pos:Pos}
def aFp(a:∀i,(X i).calm=true)(b:∀i,(X i).K=K)(S:∀i,nJ (X i) N' cap scope)(x:ME K X iter fi)(y:MG K (eM X N' scope) tg gf)(z:MF K (eM X N' scope) ifs ft)(w:ME K (eM X N' scope) elt f)(hs:∀(env:Env)(x:Ua),foldedSetIterable iter env x=pure x:=by intro _ _;rfl):
 ME K X (.ListComp elt [⟨tg,iter,ifs,0⟩] scope pos) (aHo cap (uM fi) gf ft f):=by
 obtain⟨t,c,d⟩:=x.ex;obtain⟨u,e,g⟩:=y.ex;obtain⟨v,h,j⟩:=z.ex;obtain⟨o,k,l⟩:=w.ex;exact⟨_,fun i=>YH (a i) (S i) (QR (b i) (c i)) (fun C s H fp pn=>e (i,C,s,H,fp,pn)) (fun C s H fp pn=>h (i,C,s,H,fp,pn)) (fun C s H fp pn=>k (i,C,s,H,fp,pn)) (hs _),aFO (aDm d) g j l⟩
def ZP(a:∀i,(X i).K=K):Q2 K X (binaryOp .Add) GB:=⟨_,fun i=>(show OpR (X i) (binaryOp .Add) (JZ K)by have:=op_catS (X:=X i);rw[a i]at this;exact this),aDo⟩
end
end L2
namespace HT
open PySem  PySem.Spec PyProof.Rows
def fm_congr{a b:Type}{f g:a->Tz b}:∀{l:Tx a},(∀x∈l,f x=g x)->l.filterMap f=l.filterMap g
 |[]=>fun _=>rfl
 |x::l=>fun h=>by
  rw[Z0,Z0,h x A9,fm_congr fun y c=>h y (B0 _ c)]
def rev_pick{b:Type}(xs:Tx b):(List.range xs.length).filterMap (fun m=>xs[xs.length-1-m]?)=xs.reverse:=by
 have e:∀m∈List.range xs.length,xs[xs.length-1-m]?=xs.reverse[m]?:=fun m hm=>by
  rw[List.getElem?_reverse (List.mem_range.mp hm)]
 rw[fm_congr e];refine A0u fun i=>?_;have l:xs.length=xs.reverse.length:=List.length_reverse.symm;rw[l];generalize xs.reverse=a;clear e l xs
 have:(List.range a.length).filterMap (fun m=>a[m]?)=a:=by
  induction a with
  |nil=>rfl
  |cons y a ih=>
   rw[L7,List.range_succ_eq_map,Z0];show y::_=_;rw[List.filterMap_map];congr 1
 rw[this]
section
variable{prog:Uf}{w:World}{A:Ug}{E:T1}{s:Uc}
def NA(n:Nat):Builtin.Slice.slicePlaces ((n:Int)-1) (-1) (-1)=n:=by
 unfold Builtin.Slice.slicePlaces;rw[B2 (by decide)];by_cases h:(n:Int)-1 > -1
 .rw[A4 h,show(-(-1:Int))=1 from rfl,Int.ediv_one];omega
 .rw[B2 h];omega
def wQ{n:Nat}{Q:Int×Int×Nat->Uc->Prop}(hs:s.heap.IsSliceOf sl .none .none vs)(ps:IsPart vs (Z (-1)))
 (h:Q ((n:Int)-1,-1,n) s):wpAny (model prog w) A (Builtin.Slice.sliceApplied (.ref sl) (pure (n:Int))) Q E s:=by
 obtain⟨os,a,b,hds⟩:=id hs;unfold Builtin.Slice.sliceApplied Builtin.Slice.sliceFields;refine A1 (A1 (J0 a hds (x:=.none) rfl (A1 (J0 a hds (x:=.none) rfl (A1 (J0 a hds (x:=vs) rfl (B5 ?_)))))));refine A1 (tT ps ?_);show wpAny _ _ (if ((-1:Int)==0)=true then _ else _) _ _ s;rw[B2 (by decide)];refine A1 (slicePart_none (A1 (slicePart_none (A1 (B5 ?_)))));show wpAny _ _ (pure ((n:Int)-1,(-1:Int),Builtin.Slice.slicePlaces ((n:Int)-1) (-1) (-1))) _ _ s;rw[NA];exact B5 h
def VI(xs:Tl):((List.range xs.size).filterMap fun(m:Nat)=>xs[((xs.size:Int)-1+(m:Int)*(-1)).toNat]?).toArray=xs.toList.reverse.toArray:=by
 have l:xs.size=xs.toList.length:=Array.length_toList.symm;rw[<- rev_pick xs.toList,l];congr 1;refine fm_congr fun m hm=>?_;have:=List.mem_range.mp hm;rw[show((xs.toList.length:Int)-1+(m:Int)*(-1)).toNat=xs.toList.length-1-m by omega,Z9]
def getItem_tuple_rev{Q:T1}(ht:IsTup s.heap t a)(hs:s.heap.IsSliceOf sl .none .none vs)(ps:IsPart vs (Z (-1)))
 (h:Q (.ref s.heap.objs.size) { s with heap:=s.heap.push { cls:=.type "tuple",data:=.seq a.toList.reverse.toArray } })
 (c:a.size<=sizeLine):wpAny (model prog w) A (getItem (.ref t) (.ref sl)) Q E s:=by
 have b:sizeOk (.seq a.toList.reverse.toArray):=by
  show a.toList.reverse.toArray.size<=sizeLine;rw[C5,Y1,A1h];exact c
 obtain⟨os,d,e,hds⟩:=id hs;have f:s.TypeIs (.ref sl) "slice":=⟨os,d,e⟩;unfold getItem
 try with_reducible refine S5 ?_
 first|refine A1 (B5 ?_)|skip
 refine A1 (wpAny_sequenceKey ht.typeIs (by decide) ?_)
 refine A1 (U1 (name:=Str.ofString "__getitem__") ht.typeIs O9
  (U7 O9 ht.typeIs entry_tuple_getitem ?_ (args_tuple_getitem _ _)))
 show wpAny _ _ (Builtin.Tuple.tupleItemsOf (.ref t) >>= _) _ _ s;refine A1 (tupleItemsOf_ ht ?_);refine A1 (A1p f ?_);rw[A4 (by decide)];refine A1 (wQ hs ps ?_);show wpAny _ _ (if (((a.size:Int)-1)==0&&(-1:Int)==1&&a.size==a.size)=true then _ else _) _ _ s;rw[B2 (by rw[show((-1:Int)==1)=false from rfl,Bool.and_false,Bool.false_and];exact A7),VI]
 first
  |exact A1 (m:=Builtin.Tuple.tupleExact _) (J7 (B5 ⟨_,rfl,B5 h⟩) b)
  |exact A1 (m:=Builtin.Tuple.tupleExact _) (J7 (A1 (B5 (B5 ⟨_,rfl,B5 h⟩))) b)
  |exact A1 (A1 (m:=Builtin.Tuple.tupleExact _) (J7 (B5 (B5 ⟨_,rfl,B5 h⟩)) b))
  |exact A1 (A1 (m:=Builtin.Tuple.tupleExact _) (J7 (B5 ⟨_,rfl,B5 h⟩) b))
end
end HT
namespace L2
variable{K:Fg}{s:Uc}{H:Hp}
open PySem PySem.Spec PyProof.Rows
def bH.rev:∀{xs:Tf}{us:T7},bH xs us->bH xs.reverse us.reverse
 |_,_,.nil=>.nil
 |_,_,.cons r t=>by
  rw[U8,U8];exact(bH.rev t).append (.cons r .nil)
def aGO(K:Fg):V->Hp->VK->Prop:=fun x H Q=>(∃a xs,x=.ref a/\SqL K H a xs/\∀p,H p=Y->Q (.ref p) (upd H p (.lst xs.reverse)))\/∃a xs,x=.ref a/\SqT K H a xs/\∀p,H p=Y->Q (.ref p) (upd H p (.tup xs.reverse))
def BX(a:T7):slicePick a.toArray Y Y (Z (-1))=a.reverse.toArray:=by
 have b:sliceBounds Y Y (Z (-1)) a.toArray.size=((a.length:Int)-1,-1,-1):=by
  unfold sliceBounds;rfl
 unfold slicePick;rw[b];congr 1;rw[<- HT.rev_pick a];unfold sliceRange;dsimp only;rw[B2 (by decide)]
 have c:(if (a.length:Int)-1 > -1 then((a.length:Int)-1 - -1 - -1-1) / -(-1)else 0).toNat=a.length:=by
  by_cases h:(a.length:Int)-1 > -1
  .rw[A4 h,show(-(-1:Int))=1 from rfl,Int.ediv_one];omega
  .rw[B2 h];omega
 rw[c,List.filterMap_map];refine HT.fm_congr fun m hm=>?_;have:=List.mem_range.mp hm;show a.toArray[((a.length:Int)-1+-1*(m:Int)).toNat]?=_;rw[show((a.length:Int)-1+-1*(m:Int)).toNat=a.length-1-m by omega,A0w]
section
variable{X:Cx}{e st:Ue}{te:TE}{th:TO}{pos p2:Pos}
def aBY(I:Inv X pins i H s)(j:RelV x v)(hs:s.heap.IsSliceOf sl .none .none vs)(ps:IsPart vs (Z (-1)))(h:aGO X.K x H Q):
 ∃T id,typeLookup (.type T) "__getitem__"=pure (Z (.builtin id))/\s.TypeIs v T/\wpAny (model X.prog X.w) X.A (getItem v (.ref sl)) (EP X pins i Q) X.xe s:=by
 rcases h with⟨a,xs,rfl,g,q⟩|⟨a,xs,rfl,g,q⟩
 .cases j;obtain⟨d,r,ht,f⟩:=I.list g;have c:=r.length;refine⟨"list",_,slot_list_getitem.lookup,ht.isList.typeIs,?_⟩;refine wpAny_getItem_list_slice ht.isList hs .none .none ps (by decide) ?_ (by rw[C5]<;>omega);rw[BX];refine⟨.ref s.heap.objs.size,_,I.laid (t':=s.toks) (o:=.lst xs.reverse) (fun b ob q=>A3 _ q) (B4 _) ?_,rfl,q _ (I.hok.fresh (B4 _))⟩;exact⟨by rw[Y1];exact f,_,0,r.rev,C6 _ rfl⟩
 .cases j;obtain⟨d,r,ht,f⟩:=I.tuple g;have c:d.toArray.size=xs.length:=by rw[C5];exact r.length.symm
  refine⟨"tuple",_,PyProof.Rows.slot_tuple_getitem.lookup,ht.typeIs,?_⟩;refine HT.getItem_tuple_rev ht hs ps ?_ (by rw[c];exact f);refine⟨.ref s.heap.objs.size,_,I.laid (t':=s.toks) (o:=.tup xs.reverse) (fun b ob q=>A3 _ q) (B4 _) ?_,rfl,q _ (I.hok.fresh (B4 _))⟩;exact⟨by rw[Y1];exact f,_,r.rev,IsTup.new _ _⟩
def aIJ(K:Fg)(te:TE)(th:TO):TE:=fun a H Q=>te a H fun x b=>th a b fun u c=>u=Z (-1)/\aGO K x c Q
def aFk(f:PE X e te)(g:PO X (Z st) th):PE X (.Subscript e (.Slice Y Y (Z st) p2) pos) (aIJ X.K te th):=by
 intro pins s c H Q I h;refine Subscript_ (thn (f pins s c H _ I h) fun v s1 ⟨x,i,j,k,l⟩=>?_);refine wpAny_Slice ?_;rw[evalPart_none];refine B5 (B5 ?_);refine thn (g pins s1 c i _ j l) fun d a ⟨u,m,n,o,p⟩=>?_;obtain⟨rfl,q⟩:=p;have r:Inv X pins c m { a with heap:=a.heap.push { cls:=.type "slice",data:=.fields #[.none,.none,d] } }:=n.kept (t':=a.toks) fun b ob q=>A3 _ q;obtain⟨T,id,hT,ht,t⟩:=aBY r k (Heap.IsSliceOf.new ..) o q;show wpAny (model X.prog X.w) X.A (subscriptTail e (.Slice Y Y (Z st) p2) v (.ref a.heap.objs.size)) (EP X pins c Q) X.xe { a with heap:=a.heap.push { cls:=.type "slice",data:=.fields #[.none,.none,d] } };exact tail_any (ops:=[v,.ref a.heap.objs.size]) ht hT t (by with_unfolding_all rfl)
end
def aCt:CD->Sto->Tz (CD×Sto)
 |.d (.list ds),M=>Z (.d (.list ds.reverse),M)
 |.d (.tuple ds),M=>Z (.d (.tuple ds.reverse),M)
 |_,_=>Y
def RT(f:EF)(u:OF):EF:=fun a M=>(f a M).bind fun r=>(u a r.2).bind fun q=>if q.1=Z (-1)then aCt r.1 q.2 else Y
section
variable{K:Fg}
def aL.rev{H:Hp}:∀{ds:T6}{vs:Tf},aL K H ds vs->aL K H ds.reverse vs.reverse
 |[],vs=>fun h=>by rw[show vs=[]from h];rfl
 |d::ds,vs=>fun h=>by
  obtain⟨v,r,rfl,a,b⟩:=h;rw[U8,U8];exact aL.app (aL.rev b) ⟨v,[],rfl,a,rfl⟩
def RX{z:CD}{M':Sto}(h:aCt x M=Z (z,M')){W:Wd}{Q:VK}(G:Good K W M H)(g:dI K W x v)(k:∀w W' H',W.Ext W'->Good K W' M' H'->dI K W' z w->Q w H'):aGO K v H Q:=by
 unfold aCt at h;split at h
 .rename_i ds;cases h;obtain⟨p,us,rfl,c,d⟩:=(show ∃a us,_=V.ref a/\SqL K W.F a us/\aL K W.F ds us from g);refine .inl ⟨p,us,rfl,G.fh.seq c,fun l e=>?_⟩;obtain⟨b,f⟩:=G.lay (o:=.lst us.reverse) e;exact k _ _ _ b f ⟨l,_,rfl,SqL.of bA,aL.same b.ff _ _ d.rev⟩
 .rename_i ds;cases h;obtain⟨p,us,rfl,c,d⟩:=(show ∃a us,_=V.ref a/\SqT K W.F a us/\aL K W.F ds us from g);refine .inr ⟨p,us,rfl,G.fh.seqT c,fun l e=>?_⟩;obtain⟨b,f⟩:=G.lay (o:=.tup us.reverse) e;exact k _ _ _ b f ⟨l,_,rfl,SqT.of bA,aL.same b.ff _ _ d.rev⟩
 .cases h
def aGz{e:TE}{f:EF}{th:TO}{u:OF}(a:SE K e f)(c:SO K th u):SE K (aIJ K e th) (RT f u):=by
 intro E M x M' b W H g Q G R k;obtain⟨⟨y,M1⟩,j,b⟩:=aM b;obtain⟨⟨q,l⟩,m,b⟩:=aM b;refine a _ _ _ _ j W H g _ G R fun v n o h p r=>?_;refine c _ _ _ _ m n o g _ p (R.up h) fun F I i t=>?_;have b:(if q=Z (-1)then aCt y l else Y)=Z (x,M'):=b;by_cases d:q=Z (-1)
 .rw[A4 d]at b;exact⟨d,RX b t (r.up i) fun w z A B C D=>k w z A ((h.trans i).trans B) C D⟩
 .rw[B2 d]at b;cases b
end
section
variable{ι:Type}{K:Fg}{X:ι->Cx}{a st:Ue}{f:EF}{u:OF}{pos p2:Pos}
def aFl(b:∀i,(X i).K=K)(x:ME K X a f)(z:MO K X (Z st) u):ME K X (.Subscript a (.Slice Y Y (Z st) p2) pos) (RT f u):=by
 obtain⟨t,c,d⟩:=x.ex;obtain⟨h,e,g⟩:=z.ex;exact⟨_,fun i=>by have:=aFk (p2:=p2) (pos:=pos) (c i) (e i);rw[b i]at this;exact this,aGz d g⟩
end
section
open PySem.SeqAt
open PySem.AutoSeq1 (wpAny_loadPart')
open PySem.MeetsSeq PySem.MeetsSeq2 PySem.MeetsSeq3
def aCz{A:Ug}{c:Bool}(f:A.units<cLine)(d:Reads s.heap p x as)(e:Reads s.heap q y bs)(h:fE x y=Z c):
 ∀Q:T1,Q (.bool c) s->wpAny (model prog w) A (richCompare .Lt p q) Q E s:=by
 intro Q k;unfold fE at h;split at h
 .rename_i a b;cases d;cases e;cases h;exact HT.rcLt_int _ _ _ _ _ _ _ _ _ _ k
 .rename_i xs v;obtain⟨ns,g,h⟩:=Option.bind_eq_some_iff.mp h;obtain⟨ms,i,h⟩:=Option.bind_eq_some_iff.mp h;cases h;cases d with
  |tuple j l m n=>
   cases e with
   |tuple o r t u=>exact HT.lt_tupInts ⟨_,j,l,_,m⟩ ⟨_,o,r,_,t⟩ (oD n g) (oD u i) f k
 .cases h
def CB(l b:Ud)(us i:Tl)(n n2:Nat)(dd z:Tk)(sl B:Array (Ti))(xs ys:T6)(c:Bool):
 Meets (Builtin.«tuple.__lt__» ⟨[.ref l,.ref b],[]⟩)
  (fun A R s=>(A.in1.units+64<cLine/\(∃as,ReadsAll s.heap us.toList xs as)/\(∃bs,ReadsAll s.heap i.toList ys bs)/\xs.all SeqAt.shaped=true/\ys.all SeqAt.shaped=true/\dU xs ys=Z c) /\
   s.heap.get? l=Z { cls:=.type "tuple",dict:=dd,data:=.seq us n,slots:=sl }/\s.heap.get? b=Z { cls:=.type "tuple",dict:=z,data:=.seq i n2,slots:=B } /\
   R (.ok (.ret (.bool c))) s):=
 .of_wp fun prog w A R s h=>by
  obtain⟨r,g,d,C,os⟩:=s;obtain⟨⟨N,⟨as,hi⟩,⟨bs,O⟩,s1,s2,Q⟩,S,T,h⟩:=h;have f2:=AutoSeq1.sub_tuple_tuple;have z1:us.size=xs.length:=by rw[<- ReadsAll.len hi];simp
  have z2:i.size=ys.length:=by rw[<- ReadsAll.len O];simp
  wp_walk using Z1 S,Z1 T,wpAny_forIn_list _ (fun rest b D=>b.1=Y/\D=⟨r,g,d,C,os⟩/\∃(vs ws:T7)(j a:T6),rest=vs.zip ws /\
   (∃as,ReadsAll r vs j as)/\(∃bs,ReadsAll r ws a bs)/\j.all SeqAt.shaped=true/\a.all SeqAt.shaped=true/\j.length+i.size=a.length+us.size/\dU j a=Z c) _
  case turn=>
   rintro⟨y,x⟩ rest b D ⟨o,rfl,vs,ws,j,a,m,⟨F,ha⟩,⟨G,p⟩,t,u,f,k⟩;cases ha with
   |nil=>rw[List.zip_nil_left]at m;cases m
   |cons I P=>
    cases p with
    |nil=>rw[List.zip_nil_right]at m;cases m
    |cons v J=>
     rename_i dx U _ dy V _;rw[A0r]at m;injection m with L q
     injection L with W X
     subst W X;rw[A1b,B8]at t u;simp only[List.length_cons]at f;refine A1 (SeqAt.eqAt_reads _ _ A.in1 ⟨r,g,d,C,os⟩ _ _ _ _ I v (U4 t.1) (U4 u.1) (SeqAt.room_of_shaped t.1 N) prog w _ _ ?_);have k:(if PyData.eqv _ _=true then dU _ _ else fE _ _)=Z c:=k;revert k;split
     .rename_i e;intro k;rw[e]
      wp_walk
      exact⟨rfl,rfl,_,_,_,_,q,⟨_,P⟩,⟨_,J⟩,t.2,u.2,by omega,k⟩
     .rename_i e;intro k;rw[Bool.eq_false_iff.mpr e];have M:=fun E=>aCz (prog:=prog) (w:=w) (A:=A.in1) (E:=E) (s:=⟨r,g,d,C,os⟩) (Nat.lt_of_le_of_lt (Nat.le_add_right _ 64) N) I v k
      wp_walk using M
      exact⟨_,rfl,by simpa using h⟩
  case fin=>
   rintro⟨v,J⟩ D ⟨o,rfl,vs,ws,j,a,m,⟨F,ha⟩,⟨G,p⟩,t,u,f,k⟩;simp only at o;subst o
   have hv:c=decide (us.size<i.size):=by
    cases ha with
    |nil=>
     have k:Z (decide (0<a.length))=Z c:=k;cases k;simp only[List.length_nil]at f;exact decide_eq_decide.mpr (by omega)
    |cons I P=>
     cases p with
     |nil=>
      cases k;simp only[List.length_nil,List.length_cons]at f;exact(E4 (by omega)).symm
     |cons v J=>
      rw[A0r]at m;cases m
   rw[hv]at h
   wp_walk
   exact⟨_,rfl,by simpa[Builtin.Tuple.tupleCompareSizes]using h⟩
  case h=>
   exact⟨rfl,rfl,us.toList,i.toList,xs,ys,rfl,⟨_,hi⟩,⟨_,O⟩,s1,s2,by omega,Q⟩
end
section
variable{prog:Uf}{w:World}{A:Ug}{E:T1}{s:Uc}
def aCE{c:Bool}{Q:T1}(m:Reads s.heap p (.tuple xs) as)(n:Reads s.heap q (.tuple ys) bs)(s1:xs.all SeqAt.shaped=true)(s2:ys.all SeqAt.shaped=true)(o:dU xs ys=Z c)
 (d:A.in1.units+64<cLine) (h:Q (.bool c) s):wpAny (model prog w) A (compareOp .Lt p q) Q E s:=by
 cases m with
 |tuple e f g r=>
  cases n with
  |tuple i j k t=>
   rename_i u _ _ _ v _ _;obtain⟨cls,y,data,sl⟩:=u;obtain⟨l,a,data2,b⟩:=v;simp only at f g j k;subst f g j k
   exact richCompare_meets_room (op:=.Lt) ⟨_,e,rfl⟩ ⟨_,i,rfl⟩ F.slot_tuple_lt F.entry_tuple_lt (F.args_tuple_lt_2 _ _) (CB _ _ _ _ _ _ y a sl b xs ys c)
    ⟨⟨d,⟨_,r⟩,⟨_,t⟩,s1,s2,o⟩,e,i,show Value.bool c≠Value.notImplemented/\Q (.bool c) s from⟨(fun x=>nomatch x),h⟩⟩ (Nat.lt_of_le_of_lt (A1j (C4 (A0y _) (Nat.le_add_right _ 64))) d)
end
section
variable{X:Cx}
def aGn(K:Fg):R2:=fun x y H Q=>∃xs a c,Rep K H (.tuple xs) x/\Rep K H (.tuple a) y/\xs.all SeqAt.shaped=true/\a.all SeqAt.shaped=true/\dU xs a=Z c/\Q (.bl c) H
def aGf(a:X.A.in1.units+64<cLine):OpR X (compareOp .Lt) (aGn X.K):=by
 intro pins s j H x y v u Q I b d h;obtain⟨xs,k,c,e,f,s1,s2,g,q⟩:=h;obtain⟨as,ha⟩:=Rep.reads I _ x v e b;obtain⟨bs,i⟩:=Rep.reads I _ y u f d;exact aCE ha i s1 s2 g a ⟨.bl _,H,I,rfl,q⟩
end
def ltD:F2:=fun x y M=>match x,y with
 |.d (.tuple xs),.d (.tuple a)=>if (xs.all SeqAt.shaped&&a.all SeqAt.shaped)=true then(dU xs a).bind fun c=>Z (.d (.bool c),M)else Y
 |_,_=>Y
def ltX:F2:=EZ ltI ltD
section
variable{K:Fg}
def aFa:P2 K (aGn K) ltD:=by
 intro x y M z M' h W H v u Q G b d k;unfold ltD at h;split at h
 .rename_i xs a;by_cases hs:(xs.all SeqAt.shaped&&a.all SeqAt.shaped)=true
  .rw[A4 hs]at h;obtain⟨c,e,h⟩:=aM h;cases h;rw[B8]at hs;exact⟨xs,a,c,Rep.same G.fh _ _ b,Rep.same G.fh _ _ d,hs.1,hs.2,e,k _ W H (.refl _) G rfl⟩
  .rw[B2 hs]at h;cases h
 .cases h
end
section
variable{ι:Type}{K:Fg}{X:ι->Cx}
def aCF{X:Cx}(e:X.K=K)(a:X.A.in1.units+64<cLine):OpR X (compareOp .Lt) (aGn K):=by subst e;exact aGf a
def aDT(a:∀i,(X i).K=K)(b:∀i,(X i).A.in1.units+64<cLine):Q2 K X (compareOp .Lt) ltX:=⟨_,fun i=>op_lt.or (aCF (a i) (b i)),P2.or aEe aFa⟩
end
def uV:FM:=fun x b M=>match x,b with
 |.c i,[.c j]=>match M[i]?,M[j]? with
  |some (.lst xs),some (.lst a)=>if xs.length+a.length<=sizeLine then Z (.d .none,M.set i (.lst (xs++a)))else Y
  |_,_=>Y
 |_,_=>Y
section
variable{K:Fg}
def UN:PM K RJ uV:=by
 intro x o M z M' h W H v vs Q G f rs k;unfold uV at h;split at h
 .rename_i i j;split at h
  .rename_i xs c d g;by_cases b:xs.length+c.length<=sizeLine
   .rw[A4 b]at h;cases h;obtain⟨us,l,e⟩:=G.lstAt d;obtain⟨ws,m,a⟩:=G.lstAt g;rcases rs with _|⟨n,_|_⟩;refine⟨W.α i,W.α j,us,ws,f.2,by rw[n.2],l,m,by rw[<- Paired.len e,<- Paired.len a];exact b,?_⟩;exact k _ W _ (.refl _) (G.set d (by intro q;cases q) (c':=.lst (xs++c)) (show bK K W _ _ from Paired.app e a)) rfl
   .rw[B2 b]at h;cases h
  .cases h
 .cases h
end
section
variable{ι:Type}{K:Fg}{X:ι->Cx}{o e:Ue}{f:EF}{fa:AF}
def SB{apos cpos:Pos}(a:∀i,(X i).K=K)(x:ME K X o f)(y:MA K X [e] fa)(b:∀env:Env,attributeBase o "extend" env (eval o env)=eval o env:=by intro _;rfl)(c:(apos.endLine==cpos.line)=true:=by rfl):
 ME K X (.Call (.Attribute o "extend" apos) [e] [] cpos) (bL "list" uV f fa):=by
 obtain⟨t,d,g⟩:=x.ex;obtain⟨u,h,j⟩:=y.ex;refine⟨_,fun i=>?_,QK UN g j⟩;have:=aEp A0s F.slot_list_extend F.type_list_extend SU (d i) (h i) (apos:=apos) (cpos:=cpos) (b _) (by rw[y.st.1];rfl) c (y.st.1 _) (y.st.2.plain _ _);rw[a i]at this;exact this
end
section
variable{prog:Uf}{w:World}{A:Ug}{E:T1}{s:Uc}
def JQ{a b:Int}{t v:Tok}{n:Nat}{Q:T7->Uc->Prop}(p:A.handled=Y)(q:IsRange s.heap r a b c t u v)(hs:Builtin.Range.small a b c=true)(hn:Builtin.Range.rangeSize a b c=(n:Nat))(f:n<=2 ^ 24)
 (x:∀(h':Heap)(tk:Nat)(acc:Tl),(∀b o,s.heap.get? b=Z o->h'.get? b=Z o)->ItemsOf (fun i v=>∃t,v=Value.int (a+(i:Nat)*c) t) acc n->Q acc.toList { s with heap:=h',toks:=tk }):wpAny (model prog w) A (collect (.ref r)) Q E s:=by
 obtain⟨H,g,j,tk,os⟩:=s;refine A1 (wpAny_runValue (codeAny_builtin entry_proto_collect' ?_));rw[Around.under_plainId F.plain_proto_collect _];refine A1 (m:=newList []) (J7 (B5 ⟨plainId_quiet F.plain_list_iadd _,codeAny_builtin entry_list_iadd' ?_⟩));rw[Around.under_plainId F.plain_list_iadd _];have k:∀b o,H.get? b=Z o->(H.push { cls:=.type "list",data:=.seq #[] }).get? b=Z o:=fun b o e=>A3 _ e;have y:=(C6 H (o:={ cls:=.type "list",data:=.seq #[] }) rfl);show wpAny _ A.in1 (Builtin.List.listExtendWith (.ref H.objs.size) (.ref r) (.ref H.objs.size)) _ _ ⟨H.push { cls:=.type "list",data:=.seq #[] },g,j,tk,os⟩;refine wpAny_extend_range (R:=fun r l=>match r with|.ok (.ret v)=>wpAny (model prog w) A (match v with|.ref a=>load a >>= fun o=>(match o.data with|.seq xs _=>pure xs.toList|_=>unsupported "internal:collect")|_=>unsupported "internal:collect") Q E l|.ok _=>False|.error e=>E e l) (s:=⟨H.push { cls:=.type "list",data:=.seq #[] },g,j,tk,os⟩) p (k _ _ q) hs hn f H.objs.size (.ref H.objs.size) 0 y fun h' h acc c' z hS d=>?_;exact A1 (wpAny_load hS (B5 (x h' h acc (fun b o e=>z b o (C8 (B7 e)) (k b o e)) d)))
end
def xW(r:Ud)(a b c:Int)(t u v:Tok)(n:Nat)(hs:Builtin.Range.small a b c=true)(hn:Builtin.Range.rangeSize a b c=(n:Nat))(f:n<=2 ^ 24):
 Meets (Builtin.«tuple.__new__» ⟨[.type "tuple",.ref r],[]⟩) (fun A R s=>A.in1.handled=Y/\IsRange s.heap r a b c t u v /\
  ∀(h':Heap)(tk:Nat)(acc:Tl),(∀b o,s.heap.get? b=Z o->h'.get? b=Z o)->ItemsOf (fun i v=>∃t,v=Value.int (a+(i:Nat)*c) t) acc n->R (.ok (.ret (.ref h'.objs.size))) { s with heap:=h'.push { cls:=.type "tuple",data:=.seq acc },toks:=tk }):=
 .of_wp fun prog w A R s h=>by
  obtain⟨l,g,d,tk,os⟩:=s;obtain⟨p,k,h⟩:=h;have y:=sub_tuple_self;have z:=init_tuple_lookup;have B:=madeHere_tuple;have ht:Shared.TypeIs ⟨l,g,d,tk,os⟩ (.ref r) "range":=⟨_,k,rfl⟩
  wp_walk using A1p ht,JQ p k hs hn f
  intro h' j acc q e
  have x:acc.toList.toArray.size<=sizeLine:=by
   have:=e.1;rw[S7];simp only[Array.toArray_toList];omega
  refine A1 (B5 ?_);refine A1 (m:=Builtin.Tuple.tupleExact _) (J7 ?_ x);refine B5 ⟨_,rfl,?_⟩;simpa using h h' j acc q e
section
variable{X:Cx}{a b:Ue}{ta:TA}{p p' pos pos':Pos}
def RO{Q:VK}{lo hi:Int}{t u v:Tok}{tk:Nat}(m:X.calm=true)(I:Inv X pins d H s)(n:-(2 ^ 62)<=lo)(r:lo<2 ^ 62)(y:-(2 ^ 62)<=hi)(h4:hi<2 ^ 62)(f:(hi-lo).toNat<=sizeLine)
 (q:∀l,H l=Y->Q (.ref l) (upd H l (.tup (pX lo (hi-lo).toNat)))):
 wpAny (model X.prog X.w) X.A (call (.type "tuple") [.ref s.heap.objs.size]) (fun v z=>∃x H',Inv X pins d H' z/\RelV x v/\Q x H') X.xe { s with heap:=s.heap.push { cls:=.type "range",data:=.fields #[.int lo t,.int hi u,.int 1 v] },toks:=tk }:=by
 have g:(hi-lo).toNat<=2 ^ 24:=by rw[S7]at f;exact f
 have i:Inv X pins d H { s with heap:=s.heap.push { cls:=.type "range",data:=.fields #[.int lo t,.int hi u,.int 1 v] },toks:=tk }:=I.kept fun b o e=>A3 _ e;have j:IsRange (s.heap.push { cls:=.type "range",data:=.fields #[.int lo t,.int hi u,.int 1 v] }) s.heap.objs.size lo hi 1 t u v:=IsRange.new ..;refine callType_new F.called_tuple (by decide) (F.typeCall_tuple_1 _) (F.newCall_tuple_1 _) (fun obj=>F.args_object_init_2 _ _) F.entry_tuple_new (xW _ lo hi 1 t u v (hi-lo).toNat (small_one n r y h4) (by rw[rangeSize_one];split<;>omega) g) ⟨I.ok.hd m,j,fun h' h acc k c=>?_⟩
 have sz:(s.heap.push { cls:=.type "range",data:=.fields #[.int lo t,.int hi u,.int 1 v] }).objs.size<=h'.objs.size:=by
  rw[A0k];exact B7 (k _ _ j)
 refine⟨⟨_,C6 _ rfl,rfl⟩,.ref h'.objs.size,upd H h'.objs.size (.tup (pX lo (hi-lo).toNat)),i.laid (t':=h) (o:=.tup (pX lo (hi-lo).toNat)) (fun b o e=>A3 _ (k b o e)) sz ?_,rfl,q _ (i.hok.fresh sz)⟩;exact⟨by rw[pX,A0,E8];exact f,acc.toList,DP c,IsTup.new _ _⟩
end
section
variable{K:Fg}{tA:TA}{fa:AF}
def fTRng1(f:AF):EF:=fun a M=>(f a M).bind fun r=>match r.1 with
 |[.d (.int j)]=>if cC j=true/\j.toNat<=sizeLine then Z (.d (.tuple (DX 0 j.toNat)),r.2)else Y
 |_=>Y
end
def GH(h:Heap)(vs:T7)(out:Tl):(∀b o,h.get? b=Z o->(sortedAll h vs out).get? b=Z o)/\∃c,(sortedAll h vs out).get? (h.objs.size+1)=Z (seqObj "list" out c):=by
 unfold sortedAll
 have f:((h.push (seqObj "list" #[] 0)).update h.objs.size (Obj.mapSeq fun x=>x++vs.toArray)).objs.size=h.objs.size+1:=by
  rw[Heap.size_update,A0k]
 have a:∀b o,h.get? b=Z o->((h.push (seqObj "list" #[] 0)).update h.objs.size (Obj.mapSeq fun x=>x++vs.toArray)).get? b=Z o:=fun b o e=>by
  rw[U5 _ _ _ _ (C8 (B7 e))];exact A3 _ e
 generalize (h.push (seqObj "list" #[] 0)).update h.objs.size (Obj.mapSeq fun x=>x++vs.toArray)=d at f a;rw[<- f];have i:(d.push (seqObj "list" vs.toArray 0)).get? d.objs.size=Z (seqObj "list" vs.toArray 0):=C6 _ rfl;constructor
 .intro b o e;have g:b≠d.objs.size:=C8 (B7 (a b o e));unfold sortedHeap;rw[U5 _ _ _ _ g];refine A3 _ (A3 _ ?_);rw[U5 _ _ _ _ g];exact A3 _ (a b o e)
 .unfold sortedHeap;have j:=Z6 i (fun _=>#[]);have k:=A3 (seqObj "tuple" vs.toArray 0) j;have l:=A3 (seqObj "list" #[] 0) k;exact⟨_,Z6 l (fun _=>out)⟩
def tH:∀{ns:T9}{us:T7},IntsAre us ns->bH (ns.map .int) us
 |[],_,.nil=>.nil
 |_::_,_,.cons _ t h=>.cons ⟨t,rfl⟩ (tH h)
def MM(K:Fg):Tf->Hp->VK->Prop:=fun xs H Q=>∃(p:Ud)(ns:T9),xs=[.ref p]/\SqL K H p (ns.map .int)/\ns.length<64/\∀l,H l=Y->Q (.ref l) (upd H l (.lst ((dW ns).map .int)))
def LR:dM X (.builtin "sorted") (MM X.K):=by
 intro pins s v H xs us Q I r h;obtain⟨p,ns,rfl,j,k,q⟩:=h;obtain⟨u,rfl,l⟩:=vals1 r;cases l;obtain⟨b,g,m,i⟩:=I.list j;have n:=g.length;rw[A0]at n i;refine sorted_ints m.isList (intsAre_of g) (by omega) fun a d hi pm o=>?_;have e:d=dW ns:=nU o (lB ns) (pm.trans (eL ns).symm);subst e;obtain⟨kp,c,t⟩:=GH s.heap b a;have f:((dW ns).map V.int).length<=sizeLine:=by rw[A0,pm.length_eq];exact i
 exact⟨.ref (s.heap.objs.size+1),upd H (s.heap.objs.size+1) (.lst ((dW ns).map .int)),I.laid (t':=s.toks) kp (A1d _) ⟨f,a.toList,c,tH hi,by simpa using t⟩,rfl,q _ (I.hok.fresh (A1d _))⟩
def aEU{X:Cx}(h:X.K=K):dM X (.builtin "sorted") (MM K):=by subst h;exact LR
def sortIF:FN:=fun xs M=>match xs with
 |[.d (.list ds)]=>(cN ds).bind fun ns=>if ns.length<64 then Z (.d (.list ((dW ns).map .int)),M)else Y
 |_=>Y
def oG:∀{ds:T6}{ns:T9},cN ds=Z ns->ds=ns.map .int
 |[],_=>fun h=>by cases h;rfl
 |d::ds,ns=>fun h=>by
  cases d with
  |int n=>
   obtain⟨ms,a,b⟩:=Option.bind_eq_some_iff.mp (show(cN ds).bind (fun ns=>Z (n::ns))=Z ns from h);cases b;rw[oG a];rfl
  |_=>cases h
def iC{K:Fg}{H:Hp}:∀{ns:T9}{us:Tf},aL K H (ns.map .int) us->us=ns.map .int
 |[],_=>fun h=>h
 |n::ns,_=>fun h=>by
  obtain⟨v,r,rfl,a,b⟩:=(show ∃v r,_=v::r/\Rep K H (.int n) v/\aL K H (ns.map .int) r from h);rw[iC b,show v=V.int n from a];rfl
section
variable{X:Cx}{pos:Pos}
noncomputable def QY(K:Fg)(n:Nat)(t:TGs):TG:=fun v b H Q=>∃a xs,v=.ref a/\SqL K H a xs/\xs.length=n/\t xs b H Q
def aBZ{n:Nat}(j:X.calm=true)(h:PGs X es t)
 (hn:(assignEach es X.env).length=n) (c:(assignEach es X.env).findIdx? (·.1)=Y):PG X (.Tuple es k pos) (QY X.K n t):=by
 intro pins s g H v u Q I r d;obtain⟨a,xs,l,m,p,d⟩:=d;subst l;cases r;obtain⟨f,i,q,y⟩:=I.list m;have e:(assignEach es X.env).length=f.toArray.size:=by simp[hn,<- p,i.length]
 rw[assign_Tuple];refine A1 (Y6 ?_);refine A1 (S5 ?_);rw[c,e];refine W.kun_itemsOf (I.ok.hd j) q.isList fun h' w=>?_;have x:Inv X pins g H { s with heap:=h' }:=I.kept (t':=s.toks) fun b o e=>w b o (C8 (B7 e)) e;exact h pins _ g H xs _ Q x (by simpa using i) d
def ZC{n:Nat}(e:X.K=K)(b:X.calm=true)(h:PGs X es t)
 (hn:(assignEach es X.env).length=n) (a:(assignEach es X.env).findIdx? (·.1)=Y):PG X (.Tuple es k pos) (QY K n t):=by subst e;exact aBZ b h hn a
end
def aAG(n:Nat)(g:GsF):GF:=fun x a M=>match x with
 |.d (.list ds)=>if ds.length=n then g (ds.map .d) a M else Y
 |_=>Y
def aBu(b:SGs K d e):SG K (QY K n d) (aAG n e):=by
 intro x l M h M' c W H i v Q G R r k;unfold aAG at c;split at c
 .rename_i ds;by_cases f:ds.length=n
  .rw[A4 f]at c;obtain⟨a,vs,rfl,j,g⟩:=(show ∃a vs,v=.ref a/\SqL K W.F a vs/\aL K W.F ds vs from r);exact⟨a,vs,rfl,G.fh.seq j,by rw[<- g.length];exact f,b _ _ _ _ _ c W H i vs Q G R (eW g) k⟩
  .rw[B2 f]at c;cases c
 .cases c
def aAR(K:Fg):Tf->Hp->VK->Prop:=fun xs H Q=>∃(p:Ud)(ns:T9),xs=[.ref p]/\SqL K H p (ns.map .int)/\Q (.int ns.sum) H
def SD{X:Cx}(d:X.calm=true):dM X (.builtin "sum") (aAR X.K):=by
 intro pins s m H xs us Q I r h;obtain⟨p,ns,rfl,f,q⟩:=h;obtain⟨u,rfl,g⟩:=vals1 r;cases g;obtain⟨a,i,j,n⟩:=I.list f;have hi:=intsAre_of i;obtain⟨o,e⟩:=hi.allInts.items;have b:=j.isList;have c:=hi.numsOf;rw[show a=a.toArray.toList from rfl,e,nums_intItems]at c;rw[e]at b;refine sum_intListG (I.ok.hd d) b fun h' k t' l=>?_;refine⟨.int _,H,I.kept (h':=h') (t':=k) l,⟨t',rfl⟩,?_⟩;rw[preSum_eq,List.take_of_length_le (by simp),c];exact q
def aJa{X:Cx}(h:X.K=K)(a:X.calm=true):dM X (.builtin "sum") (aAR K):=by subst h;exact SD a
def sumF:FN:=fun xs M=>match xs with
 |[.d (.list ds)]=>(cN ds).bind fun ns=>Z (.d (.int ns.sum),M)
 |_=>Y
def aCD:PN K (aAR K) sumF:=by
 intro xs M z M' h W H vs Q G r k;unfold sumF at h;split at h
 .rename_i ds;obtain⟨ns,c,h⟩:=aM h;cases h;rcases r with _|⟨d,_|_⟩;obtain⟨p,us,rfl,f,b⟩:=(show ∃a us,_=V.ref a/\SqL K W.F a us/\aL K W.F ds us from d);rw[oG c]at b;have e:=iC b;subst e;exact⟨p,ns,rfl,G.fh.seq f,k _ W H (.refl _) G rfl⟩
 .cases h
def NB{ι:Type}{X:ι->Cx}(a:∀i,(X i).K=K)(b:∀i,(X i).calm=true):QN K X (.builtin "sum") sumF:=⟨_,fun i=>aJa (a i) (b i),aCD⟩
section
variable{K:Fg}{ι:Type}{X:ι->Cx}
def aFN:F2:=pI fun i j=>ifS (BH i j) (.int (i*2 ^ j.toNat))
def zY:F2:=pI fun i j=>Z (.int (Builtin.bitAnd i j))
def YW(h:BH i j=true):aHS i j:=by
 unfold BH at h;simp only[Bool.and_eq_true,decide_eq_true_eq]at h;exact⟨h.1.1,h.1.2,h.2⟩
def aHU:Q2 K X (binaryOp .LShift) aFN:=⟨_,fun _=>aEE,aCH fun _ _ h=>YW h⟩
def VZ:Q2 K X (binaryOp .BitAnd) zY:=⟨_,fun _=>aFc,aAT⟩
end
noncomputable abbrev t7(b:Bool)(p:Tn):SetTable:=⟨7,p,#[],0,b,0,true⟩
def EW{h:Int}(a:0<=h)(b:h<9):SetTable.bits h=h.toNat:=by
 unfold SetTable.bits;rw[Int.emod_eq_of_lt a (by omega)]
section
variable{prog:Uf}{w:World}{A:Ug}{E:T1}{s:Uc}
end
end L2
namespace PySem
section
variable{prog:Uf}{w:World}{A:Ug}{E:T1}{s:Uc}
structure FV(z TO i1 i2 l:Ud):Prop where
 z:l≠z
 o:l≠TO
 a:l≠i1
 b:l≠i2
section
variable{z TI TO i1 i2 l1 l2:Ud}{k n1 n2:Nat}{P1 P2:Nat->Ua->Prop}{S1 S2:Nat->Heap->Prop}{a b:Ua}
def aDB{Q:T1}(D:L2.Apart5 z TI TO i1 i2)(f:FV z TO i1 i2 l1)(g:FV z TO i1 i2 l2)(I:Draws prog w A i1 [i1,l1] n1 P1 S1)(J:Draws prog w A i2 [i2,l2] n2 P2 S2)
 (i:IsZip s.heap z TI TO .none) (hI:IsPair s.heap TI (.ref i1) (.ref i2)) (hO:IsPair s.heap TO a b) (t1:S1 k s.heap) (t2:S2 k s.heap) (k1:k<n1) (k2:k<n2)
 (hQ:∀h' tk x y,P1 k x->P2 k y->IsZip h' z TI TO (rawInt s.heap.objs.size)->IsPair h' TO x y->S1 (k+1) h'->S2 (k+1) h'->IsPair h' s.heap.objs.size x y->
  (∀c o,c≠z->c≠TO->c≠i1->c≠i2->s.heap.get? c=Z o->h'.get? c=Z o)->Q (.ref s.heap.objs.size) { s with heap:=h',toks:=tk }):
 wpAny (model prog w) A (Builtin.«zip.__next__» ⟨[.ref z],[]⟩) (fun r s'=>∃v,r=.done (.ret v)/\Q v s') E s:=by
 have B:∀{h h':Heap}{c:Ud}{j:Nat},Heap.SameBut c h h'->i1≠c->l1≠c->S1 j h->S1 j h':=fun sb q r st=>I.frame _ _ _ st fun b hb o e=>sb.extBut b o (by
  rcases List.mem_cons.mp hb with rfl|hb
  .exact q
  .rw[List.mem_singleton.mp hb];exact r) e
 have C:∀{h h':Heap}{c:Ud}{j:Nat},Heap.SameBut c h h'->i2≠c->l2≠c->S2 j h->S2 j h':=fun sb q r st=>J.frame _ _ _ st fun b hb o e=>sb.extBut b o (by
  rcases List.mem_cons.mp hb with rfl|hb
  .exact q
  .rw[List.mem_singleton.mp hb];exact r) e
 refine(?_:wpAny _ _ (field (.ref z) 2 >>= fun v=>_) _ _ _);refine A1 (J0 i rfl (x:=Value.bool false) rfl (?_:wpAny _ _ (field (.ref z) 3 >>= fun v=>_) _ _ _));refine A1 (J0 i rfl (x:=Value.ref TI) rfl (A1 (Z7 hI rfl (?_:wpAny _ _ (Builtin.SmallTypes.ownedTupleIsFree (.ref z) >>= fun v=>_) _ _ _))));refine A1 (A1 (m:=field (.ref z) 0) (J0 i rfl (x:=Value.none) rfl (B5 ?_)));rw[A4 rfl];refine A1 (wpAny_rule (A1 (J0 i rfl (x:=Value.ref TO) rfl (A1 (A0f i (by simp) fun O K l=>A1 ?_)))));have K:IsZip O z TI TO .ellipsis:=K;simp only[List.zipIdx_cons,List.zipIdx_nil,List.forIn_cons,List.forIn_nil];refine A1 (A1 (wpAny_onRaise (?_:wpAny _ _ (Builtin.SmallTypes.nextOf (.ref i1) >>= fun v=>_) _ _ _)));refine A1 (I.item k { s with heap:=O } _ _ k1 (B l D.i1z f.z t1) fun x g2 L p1 u1 n=>B5 ?_);have P:IsPair g2 TO a b:=n.extBut _ _ D.TOi1 (l.extBut _ _ D.TOz hO);refine A1 (Z7 P rfl (A1 (wpAny_updateSeq_pair P fun R M p=>A1 (wpAny_letGo (B5 ?_)))));have M:IsPair R TO x b:=M;refine A1 (A1 (wpAny_onRaise (?_:wpAny _ _ (Builtin.SmallTypes.nextOf (.ref i2) >>= fun v=>_) _ _ _)));refine A1 (J.item k { s with heap:=R,toks:=L } _ _ k2 (C p D.TOi2.symm g.o (C n D.i12.symm g.a (C l D.i2z g.z t2))) fun y g4 N p2 u2 t=>B5 ?_);have S:IsPair g4 TO x b:=t.extBut _ _ D.TOi2 M;refine A1 (Z7 S rfl (A1 (wpAny_updateSeq_pair S fun d F u=>A1 (wpAny_letGo (B5 (B5 ?_))))));have F:IsPair d TO x y:=F;have sz:d.objs.size=s.heap.objs.size:=by rw[u.1,t.1,p.1,n.1,l.1]
 have T:IsZip d z TI TO .ellipsis:=u.extBut _ _ D.TOz.symm (t.extBut _ _ D.i2z.symm (p.extBut _ _ D.TOz.symm (n.extBut _ _ D.i1z.symm K)));have s1:S1 (k+1) d:=B u D.TOi1.symm f.o (B t D.i12 f.b (B p D.TOi1.symm f.o u1));have s2:S2 (k+1) d:=C u D.TOi2.symm g.o u2;have U:z<d.objs.size:=B7 T;refine A1 (Z7 F rfl (A1 (wpAny_newTuple (?_:wpAny _ _ (Builtin.SmallTypes.ownedTupleHandOut (.ref z) (.ref d.objs.size) >>= fun v=>_) _ _ _))));have z6:IsZip (d.push { cls:=.type "tuple",data:=.seq #[x,y] }) z TI TO .ellipsis:=A3 _ T;refine A1 (A1 (m:=setField (.ref z) 0 _) (A0f z6 (by simp) fun g7 z7 V=>A0f z7 (by simp) fun G H W=>B5 ⟨_,rfl,?_⟩));have up:∀c o,c≠z->d.get? c=Z o->G.get? c=Z o:=fun c o q e=>W.extBut _ _ q (V.extBut _ _ q (A3 _ e));have X:IsPair G d.objs.size x y:=W.extBut _ _ (A0t U) (V.extBut _ _ (A0t U) (C6 _ rfl));have H:IsZip G z TI TO (rawInt d.objs.size):=H;rw[sz]at X H;show Q (.ref d.objs.size) _;rw[sz];refine hQ G N x y p1 p2 H (up _ _ D.TOz F) (I.frame _ _ _ s1 fun c hc o e=>up c o ?_ e) (J.frame _ _ _ s2 fun c hc o e=>up c o ?_ e) X fun c o c1 c2 c3 c4 e=>up c o c1 (u.extBut _ _ c2 (t.extBut _ _ c4 (p.extBut _ _ c2 (n.extBut _ _ c3 (l.extBut _ _ c1 e)))))
 .rcases List.mem_cons.mp hc with rfl|hc
  .exact D.i1z
  .rw[List.mem_singleton.mp hc];exact f.z
 .rcases List.mem_cons.mp hc with rfl|hc
  .exact D.i2z
  .rw[List.mem_singleton.mp hc];exact g.z
def aFz(D:L2.Apart5 z TI TO i1 i2)(M:FV z TO i1 i2 l1)(C:FV z TO i1 i2 l2)(F:Draws prog w A i1 [i1,l1] n1 P1 S1)(N:Draws prog w A i2 [i2,l2] n2 P2 S2)
 (f:IsZip s.heap z TI TO .none) (X:IsPair s.heap TI (.ref i1) (.ref i2)) (hO:IsPair s.heap TO a b) (O:S1 k s.heap) (t2:S2 k s.heap) (ke:k=n1\/(k<n1/\k=n2))
 (P:∀h' tk e,(∀c o,c≠z->c≠TO->c≠i1->c≠i2->s.heap.get? c=Z o->h'.get? c=Z o)->(∃o,h'.get? e=Z o/\o.cls=.type "StopIteration")->E (.ref e) { s with heap:=h',toks:=tk }):
 wpAny (model prog w) A (Builtin.«zip.__next__» ⟨[.ref z],[]⟩) Q E s:=by
 have R:∀{h h':Heap}{c:Ud}{j:Nat},Heap.SameBut c h h'->i1≠c->l1≠c->S1 j h->S1 j h':=fun sb q r st=>F.frame _ _ _ st fun b hb o e=>sb.extBut b o (by
  rcases List.mem_cons.mp hb with rfl|hb
  .exact q
  .rw[List.mem_singleton.mp hb];exact r) e
 have G:∀{h h':Heap}{c:Ud}{j:Nat},Heap.SameBut c h h'->i2≠c->l2≠c->S2 j h->S2 j h':=fun sb q r st=>N.frame _ _ _ st fun b hb o e=>sb.extBut b o (by
  rcases List.mem_cons.mp hb with rfl|hb
  .exact q
  .rw[List.mem_singleton.mp hb];exact r) e
 have t:∀{g:Heap}{v:Ua}{e:Ud}{o:Obj},IsZip g z TI TO v->g.get? e=Z o->o.cls=.type "StopIteration"->e≠z:=fun f d i q=>by
  subst q;rw[f]at d;cases d;simp at i
 refine(?_:wpAny _ _ (field (.ref z) 2 >>= fun v=>_) _ _ _);refine A1 (J0 f rfl (x:=Value.bool false) rfl (?_:wpAny _ _ (field (.ref z) 3 >>= fun v=>_) _ _ _));refine A1 (J0 f rfl (x:=Value.ref TI) rfl (A1 (Z7 X rfl (?_:wpAny _ _ (Builtin.SmallTypes.ownedTupleIsFree (.ref z) >>= fun v=>_) _ _ _))));refine A1 (A1 (m:=field (.ref z) 0) (J0 f rfl (x:=Value.none) rfl (B5 ?_)));rw[A4 rfl];refine A1 (wpAny_rule (A1 (J0 f rfl (x:=Value.ref TO) rfl (A1 (A0f f (by simp) fun H B n=>A1 ?_)))));have B:IsZip H z TI TO .ellipsis:=B;simp only[List.zipIdx_cons,List.zipIdx_nil,List.forIn_cons,List.forIn_nil];refine A1 (A1 (wpAny_onRaise (?_:wpAny _ _ (Builtin.SmallTypes.nextOf (.ref i1) >>= fun v=>_) _ _ _)));rcases ke with rfl|⟨k1,rfl⟩
 .refine A1 (F.done { s with heap:=H } _ _ (R n D.i1z M.z O) fun I e l ⟨J,d,i⟩=>?_);have S:IsZip I z TI TO .ellipsis:=l _ _ D.i1z.symm B;exact A0f S (by simp) fun K _ p=>P K s.toks e (fun c o u _ L _ q=>p.extBut _ _ u (l _ _ L (n.extBut _ _ u q))) ⟨J,p.extBut _ _ (t S d i) d,i⟩
 .refine A1 (F.item k { s with heap:=H } _ _ k1 (R n D.i1z M.z O) fun x I y p1 u1 l=>B5 ?_);have T:IsPair I TO a b:=l.extBut _ _ D.TOi1 (n.extBut _ _ D.TOz hO);refine A1 (Z7 T rfl (A1 (wpAny_updateSeq_pair T fun K O3 p=>A1 (wpAny_letGo (B5 ?_)))));refine A1 (A1 (wpAny_onRaise (?_:wpAny _ _ (Builtin.SmallTypes.nextOf (.ref i2) >>= fun v=>_) _ _ _)));refine A1 (N.done { s with heap:=K,toks:=y } _ _ (G p D.TOi2.symm C.o (G l D.i12.symm C.a (G n D.i2z C.z t2))) fun g4 e U ⟨J,d,i⟩=>?_);have V:IsZip g4 z TI TO .ellipsis:=U _ _ D.i2z.symm (p.extBut _ _ D.TOz.symm (l.extBut _ _ D.i1z.symm B));exact A0f V (by simp) fun g5 _ W=>P g5 y e (fun c o u c2 L c4 q=>W.extBut _ _ u (U _ _ c4 (p.extBut _ _ c2 (l.extBut _ _ L (n.extBut _ _ u q))))) ⟨J,W.extBut _ _ (t V d i) d,i⟩
end
def yN{h:Heap}{o:Obj}{n:Nat}(e:h.objs.size=n)(f:o.isFreed=false:=by rfl):(h.push o).get? n=Z o:=by subst e;exact C6 _ f
def aFr:Meets (Builtin.«zip.__new__» ⟨[.type "zip",.ref l1,.ref l2],[]⟩) (fun _ R s=>s.heap.IsTuple l1 xs/\s.heap.IsTuple l2 ys /\
 ∀h',(∀c o,s.heap.get? c=Z o->h'.get? c=Z o)->h'.get? s.heap.objs.size=Z { cls:=.type "tuple_iterator",data:=.fields #[.ref l1,.int 0 0] }->h'.get? (s.heap.objs.size+1)=Z { cls:=.type "tuple_iterator",data:=.fields #[.ref l2,.int 0 0] }->
  IsPair h' (s.heap.objs.size+2) (.ref s.heap.objs.size) (.ref (s.heap.objs.size+1))->IsPair h' (s.heap.objs.size+3) .none .none->IsZip h' (s.heap.objs.size+4) (s.heap.objs.size+2) (s.heap.objs.size+3) .none->R (.ok (.ret (.ref (s.heap.objs.size+4)))) { s with heap:=h' }):=
 .of_wp fun prog w A R s h=>by
  obtain⟨a,g,d,b,os⟩:=s;obtain⟨f,i,h⟩:=h;have sub:=sub_zip;have j:Heap.IsTuple (Shared.heap ⟨a,g,d,b,os⟩) l1 xs:=f;have L2:Heap.IsTuple (Shared.heap ⟨a.push { cls:=.type "tuple_iterator",data:=.fields #[.ref l1,.int 0 0] },g,d,b,os⟩) l2 ys:=Heap.IsTuple.at i fun o e=>A3 _ e
  wp_walk using A0d j,A0d L2
  refine⟨_,rfl,?_⟩;simp only[Heap.size_push]at h ⊢;refine h _ (fun c o e=>?_) ?_ ?_ ?_ ?_ ?_
  .exact A3 _ (A3 _ (A3 _ (A3 _ (A3 _ e))))
  .exact A3 _ (A3 _ (A3 _ (A3 _ (C6 _ rfl))))
  .exact A3 _ (A3 _ (A3 _ (yN (A0k ..))))
  .exact A3 _ (A3 _ (yN (by simp only[Heap.size_push])))
  .exact A3 _ (yN (by simp only[Heap.size_push]))
  .exact yN (by simp only[Heap.size_push])
end
end PySem
namespace L2
variable{K:Fg}{pos:Pos}{H:Hp}
open PySem PySem.Spec PyProof.Rows
def aIk(K:Fg)(l1 l2:Ud):It:=
 ⟨fun i H=>∃xs a x y,SqT K H l1 xs/\SqT K H l2 a/\xs[i]?=Z x/\a[i]?=Z y,
  fun i H v H'=>∃p x y,H p=Y/\v=.ref p/\H'=upd H p (.tup [x,y])/\(∀xs,SqT K H l1 xs->xs[i]?=Z x)/\∀a,SqT K H l2 a->a[i]?=Z y,
  fun i H=>∃xs a,SqT K H l1 xs/\SqT K H l2 a/\((i=xs.length)\/(i<xs.length/\i=a.length))⟩
def aJj(z TI TO i1 i2 l1 l2:Ud)(i:Nat)(h:Heap):Prop:=IsZip h z TI TO .none/\IsPair h TI (.ref i1) (.ref i2)/\(∃a b,IsPair h TO a b)/\h.IsTupleIter i1 l1 i/\h.IsTupleIter i2 l2 i
section
variable{prog:Uf}{w:World}{A:Ug}{E:T1}{s:Uc}
variable{z TI TO i1 i2 l1 l2:Ud}{k n1 n2:Nat}{P1 P2:Nat->Ua->Prop}{S1 S2:Nat->Heap->Prop}{a b:Ua}
def aBQ{Q:Ti->Uc->Prop}(D:Apart5 z TI TO i1 i2)(e:FV z TO i1 i2 l1)(f:FV z TO i1 i2 l2)(g:Draws prog w A.in1 i1 [i1,l1] n1 P1 S1)(h:Draws prog w A.in1 i2 [i2,l2] n2 P2 S2)
 (d:IsZip s.heap z TI TO .none) (i:IsPair s.heap TI (.ref i1) (.ref i2)) (j:IsPair s.heap TO a b) (l:S1 k s.heap) (m:S2 k s.heap) (k1:k<n1) (k2:k<n2)
 (n:∀h' tk x y,P1 k x->P2 k y->IsZip h' z TI TO (rawInt s.heap.objs.size)->IsPair h' TO x y->S1 (k+1) h'->S2 (k+1) h'->IsPair h' s.heap.objs.size x y->
  (∀c o,c≠z->c≠TO->c≠i1->c≠i2->s.heap.get? c=Z o->h'.get? c=Z o)->Q (Z (.ref s.heap.objs.size)) { s with heap:=h',toks:=tk }):
 wpAny (model prog w) A (pyNext (.ref z)) Q E s:=by
 have ty:s.TypeIs (.ref z) "zip":=⟨_,d,rfl⟩;unfold pyNext;exact A1 (wpAny_attempt (U1 ty A0x (U7 A0x ty F.entry_zip_next (aDB D e f g h d i j l m k1 k2 fun h' tk x y p q r t u v B C=>B5 (n h' tk x y p q r t u v B C)) (F.args_zip_next_1 _))))
def aBA{Q:Ti->Uc->Prop}(D:Apart5 z TI TO i1 i2)(f:FV z TO i1 i2 l1)(g:FV z TO i1 i2 l2)(h:Draws prog w A.in1 i1 [i1,l1] n1 P1 S1)(i:Draws prog w A.in1 i2 [i2,l2] n2 P2 S2)
 (d:IsZip s.heap z TI TO .none) (j:IsPair s.heap TI (.ref i1) (.ref i2)) (l:IsPair s.heap TO a b) (m:S1 k s.heap) (n:S2 k s.heap) (p:k=n1\/(k<n1/\k=n2))
 (q:∀h' tk,(∀c o,c≠z->c≠TO->c≠i1->c≠i2->s.heap.get? c=Z o->h'.get? c=Z o)->Q Y { s with heap:=h',toks:=tk }):wpAny (model prog w) A (pyNext (.ref z)) Q E s:=by
 have ty:s.TypeIs (.ref z) "zip":=⟨_,d,rfl⟩;unfold pyNext;exact A1 (wpAny_attempt (U1 ty A0x (U7 A0x ty F.entry_zip_next (aFz D f g h i d j l m n p fun h' tk e r t=>A1 (let⟨o,u,v⟩:=t;wpAny_isInstance (T:="StopIteration") (b:=true) ⟨o,u,v⟩ isSubtype_stop (B5 (q h' tk r)))) (F.args_zip_next_1 _))))
end
section
variable{P:Uf}{w:World}{K:Fg}{elts:Ta}{x1:Nat}{tpos:Pos}{z TI TO i1 i2 l1 l2:Ud}
def HK{h:Heap}(T:h.IsTuple l xs)(f:IsZip h z TI TO .none)(g:h.IsTupleIter i1 l1 i)(k:h.IsTupleIter i2 l2 j)(m:l≠TO):FV z TO i1 i2 l:=by
 obtain⟨o,e,c,_⟩:=T;obtain⟨x,p,s,_⟩:=g;obtain⟨y,t,v,_⟩:=k
 have a:∀(b:Ud)(u:Obj),h.get? b=Z u->u.cls≠.type "tuple"->l≠b:=fun b u q n r=>by
  subst r;rw[e]at q;cases q;exact n c
 have d:(Value.type "tuple_iterator")≠.type "tuple":=by intro q;injection q with q;exact absurd q (by decide)
 exact⟨a z _ f (by intro q;injection q with q;exact absurd q (by decide)),m,a i1 _ p (by rw[s];exact d),a i2 _ t (by rw[v];exact d)⟩
def RS(A5:Apart5 z TI TO i1 i2)(n1:l1≠TO)(n2:l2≠TO):Turn P w K (.Tuple elts x1 tpos) (aIk K l1 l2) [z,TI,TO,i1,i2] z (aJj z TI TO i1 i2 l1 l2) where
 mem:=by simp
 obj:=fun i h st b hb=>by
  obtain⟨hz,hTI,⟨a,c,hTO⟩,⟨o1,e1,_,d1⟩,⟨o2,e2,_,d2⟩⟩:=st;simp only[List.mem_cons,List.not_mem_nil,or_false]at hb;rcases hb with rfl|rfl|rfl|rfl|rfl
  .exact⟨_,hz,fun v q=>by cases q⟩
  .exact⟨_,hTI,fun v q=>by cases q⟩
  .exact⟨_,hTO,fun v q=>by cases q⟩
  .exact⟨_,e1,fun v q=>by rw[d1]at q;cases q⟩
  .exact⟨_,e2,fun v q=>by rw[d2]at q;cases q⟩
 keep:=fun i h h' st k=>by
  obtain⟨hz,hTI,⟨a,c,hTO⟩,h1,h2⟩:=st;exact⟨k z (by simp) _ hz,k TI (by simp) _ hTI,⟨a,c,k TO (by simp) _ hTO⟩,h1.at fun o e=>k i1 (by simp) o e,h2.at fun o e=>k i2 (by simp) o e⟩
 item:=by
  intro X hP hw hK hc i pins s σ H E I hf st hg;subst hP hw hK;obtain⟨xs,ys,x,y,hq1,hq2,hx,hy⟩:=hg;obtain⟨its,rv,p,_⟩:=I.tuple hq1;obtain⟨jts,rw',p',_⟩:=I.tuple hq2;obtain⟨u,hu,ru⟩:=rv.get hx;obtain⟨v,hv,rv'⟩:=rw'.get hy;obtain⟨hz,hTI,⟨a,c,hTO⟩,h1,h2⟩:=id st;have F1:=HK p hz h1 h2 n1;have F2:=HK p' hz h1 h2 n2;have hh:X.A.in1.handled=Y:=I.ok.hd hc;have li:=(List.getElem?_eq_some_iff.mp hu).1;have lj:=(List.getElem?_eq_some_iff.mp hv).1;refine aBQ (k:=i) A5 F1 F2 (oF hh i1 l1 F1.a its.toArray) (oF hh i2 l2 F2.b jts.toArray) hz hTI hTO ⟨h1,p⟩ ⟨h2,p'⟩ (by simpa using li) (by simpa using lj) fun h' tk u' v' e1 e2 a1 a2 a3 a4 a5 hk=>⟨_,rfl,?_⟩
  have e1:u=u':=by
   have:its.toArray[i]?=Z u:=by rw[A0w];exact hu
   rw[this]at e1;cases e1;rfl
  have e2:v=v':=by
   have:jts.toArray[i]?=Z v:=by rw[A0w];exact hv
   rw[this]at e2;cases e2;rfl
  subst e1 e2;refine wpAny_letOwnedTupleGo_zip a1 fun h2' hz2 sb=>?_
  have lt:∀b∈[z,TI,TO,i1,i2],s.heap.objs.size≠b:=fun b hb q=>by
   obtain⟨o1,e1,_⟩:=id h1;obtain⟨o2,e2,_⟩:=id h2;simp only[List.mem_cons,List.not_mem_nil,or_false]at hb
   have:∃o,s.heap.get? b=Z o:=by
    rcases hb with rfl|rfl|rfl|rfl|rfl
    .exact⟨_,hz⟩
    .exact⟨_,hTI⟩
    .exact⟨_,hTO⟩
    .exact⟨_,e1⟩
    .exact⟨_,e2⟩
   obtain⟨o,e⟩:=this;rw[<- q]at e;exact absurd (B7 e) (L8 _)
  have kk:∀b o,b∉[z,TI,TO,i1,i2]->s.heap.get? b=Z o->h2'.get? b=Z o:=fun b o hb q=>by
   simp only[List.mem_cons,List.not_mem_nil,or_false,not_or]at hb;exact(sb.2 b hb.1).trans (hk b o hb.1 hb.2.2.1 hb.2.2.2.1 hb.2.2.2.2 q)
  have ht2:h2'.get? s.heap.objs.size=Z { cls:=.type "tuple",data:=.seq #[u,v] }:=(sb.2 _ (lt z (by simp))).trans a5
  have I2:Inv X pins σ (upd H s.heap.objs.size (.tup [x,y])) { s with heap:=h2',toks:=tk }:=
   I.turnLay hf kk (B4 _) ⟨by show 2<=sizeLine;rw[S7];decide,[u,v],.cons ru (.cons rv' .nil),⟨_,ht2,rfl,_,rfl⟩⟩
  refine⟨.ref s.heap.objs.size,_,I2,rfl,⟨_,x,y,I.hok.fresh (B4 _),rfl,rfl,fun ws hw=>by rw[I.tuple_inj hw hq1];exact hx,fun ws hw=>by rw[I.tuple_inj hw hq2];exact hy⟩,⟨hz2,?_,⟨_,_,(sb.2 TO A5.TOz).trans a2⟩,a3.1.at fun o e=>(sb.2 i1 A5.i1z).trans e,a4.1.at fun o e=>(sb.2 i2 A5.i2z).trans e⟩,fun b hb=>?_⟩
  .exact(sb.2 TI A5.TIz).trans (hk TI _ A5.TIz A5.TITO A5.TIi1 A5.TIi2 hTI)
  .rw[aU (fun q=>lt b hb q.symm)];exact(hf b hb).1
 done:=by
  intro X hP hw hK hc i pins s σ H E I hf st hg;subst hP hw hK;obtain⟨xs,ys,hq1,hq2,hend⟩:=hg;obtain⟨its,rv,p,_⟩:=I.tuple hq1;obtain⟨jts,rw',p',_⟩:=I.tuple hq2;obtain⟨hz,hTI,⟨a,c,hTO⟩,h1,h2⟩:=id st;have l1':=rv.length;have l2':=rw'.length;have F1:=HK p hz h1 h2 n1;have F2:=HK p' hz h1 h2 n2;have hh:X.A.in1.handled=Y:=I.ok.hd hc;refine aBA (k:=i) A5 F1 F2 (oF hh i1 l1 F1.a its.toArray) (oF hh i2 l2 F2.b jts.toArray) hz hTI hTO ⟨h1,p⟩ ⟨h2,p'⟩ (by simpa[<- l1',<- l2']using hend) fun h' tk hk=>⟨rfl,I.turnF (t':=tk) hf fun b o hb q=>?_⟩;simp only[List.mem_cons,List.not_mem_nil,or_false,not_or]at hb;exact hk b o hb.1 hb.2.2.1 hb.2.2.2.1 hb.2.2.2.2 q
 self:=fun A i s Q E st h=>wpAny_pyIter_zip st.1 h
end
section
variable{X:Cx}{elts:Ta}{x1:Nat}{tpos:Pos}
def aEk(K:Fg)(e:TA):TI:=fun f H R=>e f H fun vs c=>∃a b xs d,vs=[.ref a,.ref b]/\((SqL K c a xs/\SqL K c b d/\R (Itz K a b) c)\/(SqT K c a xs/\SqT K c b d/\R (aIk K a b) c))
def aBX{a b:Ue}{G:TA}{p:Pos}(J:Gl X "zip")(hm:X.mg "zip"=Y)(ha:PA X [a,b] G)(hs:starEach [a,b] X.env=[(false,eval a X.env),(false,eval b X.env)])(k:starEach [b] X.env=[(false,eval b X.env)]):PI X (.Tuple elts x1 tpos) (.Call (.Name "zip" p) [a,b] [] pos) (aEk X.K G):=by
 intro pins s L H R I h;refine Call_ (jD I J hm boot_zip (J8 (thn (ha pos pins s L H _ I h) fun us s1 ⟨vs,v,c,M,w⟩=>?_) (by rw[hs,k]) (by rw[k];rfl)));obtain⟨l,n,xs,U,e,w⟩:=w;subst e;cases M with
 |cons r x=>
  cases x with
  |cons N x=>
   cases x;cases (show _=Value.ref l from r);cases (show _=Value.ref n from N)
   have fp:∀b∈[s1.heap.objs.size+4,s1.heap.objs.size+2,s1.heap.objs.size+3,s1.heap.objs.size,s1.heap.objs.size+1],pP X pins v b:=fun b O=>by
    have m:s1.heap.objs.size<=b:=by
     simp only[List.mem_cons,List.not_mem_nil,or_false]at O;omega
    exact c.fpOk m (c.hok.fresh m)
   rcases w with⟨d,f,q⟩|⟨d,f,q⟩
   .obtain⟨y,P,t,_⟩:=c.list d;obtain⟨A,B,u,_⟩:=c.list f;refine call_zip_2 t.isList u.isList fun h' j g i C D Q E=>?_;refine wpAny_pyIter_zip j ?_;exact⟨_,_,_,_,v,rfl,c.kept (t':=s1.toks) E,aAi (z:=s1.heap.objs.size+4) (TI:=s1.heap.objs.size+2) (TO:=s1.heap.objs.size+3) (i1:=s1.heap.objs.size) (i2:=s1.heap.objs.size+1) (l1:=l) (l2:=n) (CY _),⟨j,g,⟨_,_,i⟩,C,D⟩,fp,q⟩
   .obtain⟨y,P,t,_⟩:=c.tuple d;obtain⟨A,B,u,_⟩:=c.tuple f;have S:l<s1.heap.objs.size:=by obtain⟨o,e,_⟩:=t;exact B7 e
    have T:n<s1.heap.objs.size:=by obtain⟨o,e,_⟩:=u;exact B7 e
    refine callType_new F.called_zip (by decide) (F.typeCall_zip_2 _ _) (F.newCall_zip_2 _ _) (fun obj=>F.args_object_init_3 obj _ _) F.entry_zip_new aFr ⟨t,u,fun h' E C D g i j=>⟨⟨_,j,rfl⟩,wpAny_pyIter_zip j ?_⟩⟩;exact⟨_,_,_,_,v,rfl,c.kept (t':=s1.toks) E,RS (z:=s1.heap.objs.size+4) (TI:=s1.heap.objs.size+2) (TO:=s1.heap.objs.size+3) (i1:=s1.heap.objs.size) (i2:=s1.heap.objs.size+1) (l1:=l) (l2:=n) (CY _) (C8 (Nat.lt_add_right 3 S)) (C8 (Nat.lt_add_right 3 T)),⟨j,g,⟨_,_,i⟩,⟨_,C,rfl,rfl⟩,⟨_,D,rfl,rfl⟩⟩,fp,q⟩
end
def DL(f:AF):AF:=fun b M=>(f b M).bind fun r=>match r.1 with
 |[.d (.list xs),.d (.list a)]=>Z (nE xs a,r.2)
 |[.d (.tuple xs),.d (.tuple a)]=>Z (nE xs a,r.2)
 |_=>Y
def DY:∀(xs ys:T6),(nE xs ys).length=xs.length\/((nE xs ys).length<xs.length/\(nE xs ys).length=ys.length)
 |[],_=>.inl rfl
 |_::_,[]=>.inr ⟨Nat.succ_pos _,rfl⟩
 |x::xs,y::ys=>by
  have:=DY xs ys;simp only[nE,List.length_cons];omega
def aBx{tA:TA}{fa:AF}(b:SA K tA fa):SI K (aEk K tA) (DL fa):=by
 intro γ M xs M' l W H σ R G Rs k;obtain⟨⟨ys,M1⟩,h1,l⟩:=aM l;refine b _ _ _ _ h1 W H σ _ G Rs fun vs j H1 e1 B r1=>?_;revert l;dsimp only;split
 .rename_i as bs;intro l;cases l;cases r1 with
  |cons r N=>
   cases N with
   |cons O n=>
    cases n;obtain⟨p,us,rfl,hs,C⟩:=(show ∃a us,_=V.ref a/\SqL K j.F a us/\aL K j.F as us from r);obtain⟨D,f,rfl,g,h⟩:=(show ∃a us,_=V.ref a/\SqL K j.F a us/\aL K j.F bs us from O);refine⟨p,D,us,f,rfl,.inl ⟨B.fh.seq hs,B.fh.seq g,k _ j H1 e1 B fun E M2 I m q=>?_⟩⟩;have s:SqL K I p us:=q.fh.seq (m.ff.seq hs);have t:SqL K I D f:=q.fh.seq (m.ff.seq g);refine⟨fun i x P=>?_,us,f,s,t,?_⟩
    .obtain⟨c,d,Q,hd,rfl⟩:=zN P;obtain⟨u,J,S⟩:=Paired.get (eW C) (show(as.map CD.d)[i]?=Z (.d c)by rw[D6,Q];rfl);obtain⟨v,L,T⟩:=Paired.get (eW h) (show(bs.map CD.d)[i]?=Z (.d d)by rw[D6,hd];rfl);refine⟨⟨us,f,u,v,s,t,J,L⟩,fun y H3 U=>?_⟩;obtain⟨X,x',y',hn,rfl,rfl,w,z⟩:=U;have:=w us s;rw[J]at this;cases this;have:=z f t;rw[L]at this;cases this;obtain⟨A,G3⟩:=q.lay (o:=.tup [u,v]) hn;refine⟨_,A,G3,⟨X,_,rfl,SqT.of bA,?_⟩⟩;exact⟨_,_,rfl,Rep.same A.ff _ _ (show Rep K E.F c u from S.up m),_,_,rfl,Rep.same A.ff _ _ (show Rep K E.F d v from T.up m),rfl⟩
    .rcases JY (xs:=as) (ys:=bs)with e|e
     .exact .inl (by have:=List.getElem?_eq_none_iff.mp e;rw[C.length]at this;exact List.getElem?_eq_none_iff.mpr this)
     .exact .inr (by have:=List.getElem?_eq_none_iff.mp e;rw[h.length]at this;exact List.getElem?_eq_none_iff.mpr this)
 .rename_i as bs;intro l;cases l;cases r1 with
  |cons r N=>
   cases N with
   |cons O n=>
    cases n;obtain⟨p,us,rfl,hs,C⟩:=(show ∃a us,_=V.ref a/\SqT K j.F a us/\aL K j.F as us from r);obtain⟨D,f,rfl,g,h⟩:=(show ∃a us,_=V.ref a/\SqT K j.F a us/\aL K j.F bs us from O);refine⟨p,D,us,f,rfl,.inr ⟨B.fh.seqT hs,B.fh.seqT g,k _ j H1 e1 B fun E M2 I m q=>?_⟩⟩;have s:SqT K I p us:=q.fh.seqT (m.ff.seqT hs);have t:SqT K I D f:=q.fh.seqT (m.ff.seqT g);refine⟨fun i x P=>?_,us,f,s,t,?_⟩
    .obtain⟨c,d,Q,hd,rfl⟩:=zN P;obtain⟨u,J,S⟩:=Paired.get (eW C) (show(as.map CD.d)[i]?=Z (.d c)by rw[D6,Q];rfl);obtain⟨v,L,T⟩:=Paired.get (eW h) (show(bs.map CD.d)[i]?=Z (.d d)by rw[D6,hd];rfl);refine⟨⟨us,f,u,v,s,t,J,L⟩,fun y H3 U=>?_⟩;obtain⟨X,x',y',hn,rfl,rfl,w,z⟩:=U;have:=w us s;rw[J]at this;cases this;have:=z f t;rw[L]at this;cases this;obtain⟨A,G3⟩:=q.lay (o:=.tup [u,v]) hn;refine⟨_,A,G3,⟨X,_,rfl,SqT.of bA,?_⟩⟩;exact⟨_,_,rfl,Rep.same A.ff _ _ (show Rep K E.F c u from S.up m),_,_,rfl,Rep.same A.ff _ _ (show Rep K E.F d v from T.up m),rfl⟩
    .have:=DY as bs;rw[<- C.length,<- h.length];exact this
 .intro l;cases l
def aDi{ι:Type}{X:ι->Cx}{a b:Ue}{fa:AF}{p:Pos}(d:∀i,(X i).K=K)(hm:∀i,(X i).mg "zip"=Y)(x:MA K X [a,b] fa)(e:∀i,Gl (X i) "zip":=by intro _;rfl):MI K X (.Tuple elts x1 tpos) (.Call (.Name "zip" p) [a,b] [] pos) (DL fa):=by
 obtain⟨t,c,f⟩:=x.ex;exact⟨_,fun i=>by have:=aBX (elts:=elts) (x1:=x1) (tpos:=tpos) (p:=p) (pos:=pos) (e i) (hm i) (c i) (by rw[x.st.1,x.st.2.1];rfl) (by rw[x.st.2.1];rfl);rw[d i]at this;exact this,aBx f⟩
section
variable{K:Fg}
end
section
variable{K:Fg}
def fDGetT(fo b:EF):EF:=fun a M=>(fo a M).bind fun o=>(b a o.2).bind fun k=>match k.1 with
 |.d (.tuple ds)=>(keysOf (ds.map .d)).bind fun ks=>(atD k.2 o.1 (.inr ks)).bind fun r=>r.bind fun x=>Z (x,k.2)
 |_=>Y
def aDN(K:Fg)(n:Nat)(t:TGs):TG:=fun v a H Q=>aDb K n t v a H Q\/QY K n t v a H Q
def aBw{X:Cx}{pos:Pos}{n:Nat}(e:X.K=K)(b:X.calm=true)(h:PGs X es t)
 (hn:(assignEach es X.env).length=n) (a:(assignEach es X.env).findIdx? (·.1)=Y):PG X (.Tuple es k pos) (aDN K n t):=by
 intro pins s c H v u Q I r hw;rcases hw with hw|hw
 .exact NS e b h hn a pins s c H v u Q I r hw
 .exact ZC e b h hn a pins s c H v u Q I r hw
def qM(n:Nat)(g:GsF):GF:=fun x a M=>match x with
 |.d (.list _)=>aAG n g x a M
 |_=>kE n g x a M
def aDz(b:SGs K a c):SG K (aDN K n a) (qM n c):=by
 intro x g M f M' d W H e v Q G R r k;unfold qM at d;split at d
 .exact .inr (aBu b _ _ _ _ _ d W H e v Q G R r k)
 .exact .inl (XA b _ _ _ _ _ d W H e v Q G R r k)
def FD{ι:Type}{X:ι->Cx}{n:Nat}(b:∀i,(X i).K=K)(c:∀i,(X i).calm=true)(x:MGs K X es gs)(hn:∀env:Env,(assignEach es env).length=n:=by intro _;rfl)(a:∀env:Env,(assignEach es env).findIdx? (·.1)=Y:=by intro _;rfl):MG K X (.Tuple es k pos) (qM n gs):=by
 obtain⟨t,d,e⟩:=x.ex;exact⟨_,fun i=>aBw (b i) (c i) (d i) (hn _) (a _),aDz e⟩
end
section
variable{X:Cx}{a b:Ue}{ta:TA}{p p' pos pos':Pos}
def aAP(ta:TA):TE:=fun d H Q=>ta d H fun vs c=>∃i j:Int,vs=[.int i,.int j]/\-(2 ^ 62)<=i/\i<2 ^ 62/\-(2 ^ 62)<=j/\j<2 ^ 62/\(j-i).toNat<=sizeLine/\∀l,c l=Y->Q (.ref l) (upd c l (.lst (pX i (j-i).toNat)))
def WB(ta:TA):TE:=fun d H Q=>ta d H fun vs c=>∃i j:Int,vs=[.int i,.int j]/\-(2 ^ 62)<=i/\i<2 ^ 62/\-(2 ^ 62)<=j/\j<2 ^ 62/\(j-i).toNat<=sizeLine/\∀l,c l=Y->Q (.ref l) (upd c l (.tup (pX i (j-i).toNat)))
def XO(k:X.calm=true)(l:Gl X "range")(hm:X.mg "range"=Y)(c:Gl X "list")(d:X.mg "list"=Y)(ha:PA X [a,b] ta)(hs:starEach [a,b] X.env=(false,eval a X.env)::starEach [b] X.env)(m:(backTo pos' (starEach [b] X.env)).any (·.1)=false):
 PE X (.Call (.Name "list" p) [.Call (.Name "range" p') [a,b] [] pos'] [] pos) (aAP ta):=by
 intro pins s n H Q I h;refine Y8 (jD I c d A1q ?_ (by decide) (by decide));refine J8 ?_ rT rfl;rw[rT];show wpAny _ _ (spliced ((false,eval (.Call (.Name "range" p') [a,b] [] pos') X.env)::[])) _ _ s;refine Calls.spliced_cons ?_;refine Call_ (jD I l hm boot_range (J8 (thn (ha pos' pins s n H _ I h) fun us s1 ⟨vs,A,o,u,f⟩=>?_) hs m));obtain⟨i,j,e,f,v,w,x,y,q⟩:=f;subst e;cases u with
 |cons r g=>
  cases g with
  |cons z g=>
   cases g;obtain⟨t,rfl⟩:=r;obtain⟨B,rfl⟩:=z;refine call_range_2 (Calls.spliced_nil ?_);exact VJ k o f v w x y q
def WW(k:X.calm=true)(l:Gl X "range")(hm:X.mg "range"=Y)(c:Gl X "tuple")(d:X.mg "tuple"=Y)(ha:PA X [a,b] ta)(hs:starEach [a,b] X.env=(false,eval a X.env)::starEach [b] X.env)(m:(backTo pos' (starEach [b] X.env)).any (·.1)=false):
 PE X (.Call (.Name "tuple" p) [.Call (.Name "range" p') [a,b] [] pos'] [] pos) (WB ta):=by
 intro pins s n H Q I h;refine Y8 (jD I c d S6 ?_ (by decide) (by decide));refine J8 ?_ rT rfl;rw[rT];show wpAny _ _ (spliced ((false,eval (.Call (.Name "range" p') [a,b] [] pos') X.env)::[])) _ _ s;refine Calls.spliced_cons ?_;refine Call_ (jD I l hm boot_range (J8 (thn (ha pos' pins s n H _ I h) fun us s1 ⟨vs,A,o,u,f⟩=>?_) hs m));obtain⟨i,j,e,f,v,w,x,y,q⟩:=f;subst e;cases u with
 |cons r g=>
  cases g with
  |cons z g=>
   cases g;obtain⟨t,rfl⟩:=r;obtain⟨B,rfl⟩:=z;refine call_range_2 (Calls.spliced_nil ?_);exact RO k o f v w x y q
end
section
variable{K:Fg}{tA:TA}{fa:AF}
def AD(cell:Bool)(f:AF):EF:=fun a M=>(f a M).bind fun r=>match r.1 with
 |[.d (.int i),.d (.int j)]=>if (cC i=true/\cC j=true)/\(j-i).toNat<=sizeLine then(if cell=true then Z (.c r.2.length,r.2++[.lst (iE i (j-i).toNat)])else Z (.d (.list (DX i (j-i).toNat)),r.2))else Y
 |_=>Y
def EM(f:AF):EF:=fun a M=>(f a M).bind fun r=>match r.1 with
 |[.d (.int i),.d (.int j)]=>if (cC i=true/\cC j=true)/\(j-i).toNat<=sizeLine then Z (.d (.tuple (DX i (j-i).toNat)),r.2)else Y
 |_=>Y
def WG{cell:Bool}(b:SA K tA fa):SE K (aAP tA) (AD cell fa):=by
 intro u M x M' a W H m Q G R k;obtain⟨⟨v,M1⟩,n,a⟩:=aM a;refine b _ _ _ _ n W H m _ G R fun vs f w g d p=>?_;revert a;dsimp only;split
 .rename_i i j;intro a;by_cases hs:(cC i=true/\cC j=true)/\(j-i).toNat<=sizeLine
  .rw[A4 hs]at a;cases p with
   |cons r e=>
    cases e with
    |cons q e=>
     cases e;refine⟨i,j,by rw[show _=V.int i from r,show _=V.int j from q],(cP hs.1.1).1,(cP hs.1.1).2,(cP hs.1.2).1,(cP hs.1.2).2,hs.2,fun l h=>?_⟩;cases cell with
     |true=>
      rw[A4 rfl]at a;cases a;exact k _ (f.more l) _ (g.trans (f.ext_more l)) (d.new h (c:=.lst (iE i (j-i).toNat)) (o:=.lst (pX i (j-i).toNat)) SR) d.newV
     |false=>
      rw[B2 A7]at a;cases a;obtain⟨s,t⟩:=d.lay (o:=.lst (pX i (j-i).toNat)) h;exact k _ _ _ (g.trans s) t ⟨l,_,rfl,SqL.of bA,PP⟩
  .rw[B2 hs]at a;cases a
 .intro a;cases a
def VL(b:SA K tA fa):SE K (WB tA) (EM fa):=by
 intro s M x M' a W H d Q G R k;obtain⟨⟨t,M1⟩,e,a⟩:=aM a;refine b _ _ _ _ e W H d _ G R fun vs u v f g h=>?_;revert a;dsimp only;split
 .rename_i i j;intro a;by_cases hs:(cC i=true/\cC j=true)/\(j-i).toNat<=sizeLine
  .rw[A4 hs]at a;cases a;cases h with
   |cons r c=>
    cases c with
    |cons m c=>
     cases c;refine⟨i,j,by rw[show _=V.int i from r,show _=V.int j from m],(cP hs.1.1).1,(cP hs.1.1).2,(cP hs.1.2).1,(cP hs.1.2).2,hs.2,fun l n=>?_⟩;obtain⟨p,q⟩:=g.lay (o:=.tup (pX i (j-i).toNat)) n;exact k _ _ _ (f.trans p) q ⟨l,_,rfl,SqT.of bA,PP⟩
  .rw[B2 hs]at a;cases a
 .intro a;cases a
def aAO(cell:Bool){ι:Type}{X:ι->Cx}{a b:Ue}{p f pos c:Pos}(g:∀i,(X i).calm=true)(hm:∀i,(X i).mg "range"=Y)(d:∀i,(X i).mg "list"=Y)(x:MA K X [a,b] fa)(h:∀i,Gl (X i) "range":=by intro _;rfl)(e:∀i,Gl (X i) "list":=by intro _;rfl):
 ME K X (.Call (.Name "list" p) [.Call (.Name "range" f) [a,b] [] c] [] pos) (AD cell fa):=by
 obtain⟨t,j,k⟩:=x.ex;exact⟨_,fun i=>XO (g i) (h i) (hm i) (e i) (d i) (j i) (x.st.1 _) (x.st.2.plain _ _),WG k⟩
def WI{ι:Type}{X:ι->Cx}{a b:Ue}{p f pos c:Pos}(g:∀i,(X i).calm=true)(hm:∀i,(X i).mg "range"=Y)(d:∀i,(X i).mg "tuple"=Y)(x:MA K X [a,b] fa)(h:∀i,Gl (X i) "range":=by intro _;rfl)(e:∀i,Gl (X i) "tuple":=by intro _;rfl):
 ME K X (.Call (.Name "tuple" p) [.Call (.Name "range" f) [a,b] [] c] [] pos) (EM fa):=by
 obtain⟨t,j,k⟩:=x.ex;exact⟨_,fun i=>WW (g i) (h i) (hm i) (e i) (d i) (j i) (x.st.1 _) (x.st.2.plain _ _),VL k⟩
end
section
variable{K:Fg}
end
section
variable{K:Fg}
end
section
variable{K:Fg}
end
noncomputable abbrev Pb:=SetTable.Probe
noncomputable def adv(m:Nat)(p:Pb):Pb:=(⟨m,#[],#[],0,false,0,false⟩:SetTable).advance p
def JU(m:Nat):Nat->Pb->Pb
 |0,p=>p
 |n+1,p=>JU m n (adv m p)
def AM:∀(a b:Nat)(p:Pb),JU m (a+b) p=JU m b (JU m a p)
 |0=>fun b p=>by rw[A1k];rfl
 |a+1=>fun b p=>by
  rw[Nat.succ_add];exact AM a b (adv m p)
def aAQ(m:Nat)(q:Nat×Nat):Pb:=⟨q.1,SetTable.runEnd m q.1-q.1,q.1,q.2,Y⟩
noncomputable def lps(m:Nat):Nat->Nat×Nat->Nat×Nat
 |0,q=>q
 |n+1,q=>lps m n (SetTable.leap m q.1 q.2)
def VF{i pt:Nat}:∀(k j:Nat),JU m k ⟨j,k,i,pt,Y⟩=⟨j+k,0,i,pt,Y⟩
 |0=>fun j=>rfl
 |k+1=>fun j=>by
  show JU m k (adv m ⟨j,k+1,i,pt,Y⟩)=_;rw[show adv m ⟨j,k+1,i,pt,Y⟩=⟨j+1,k,i,pt,Y⟩from rfl,VF k (j+1),Nat.add_right_comm,Nat.add_assoc]
def aBe(q:Nat×Nat):JU m (SetTable.runEnd m q.1-q.1+1) (aAQ m q)=aAQ m (SetTable.leap m q.1 q.2):=by
 rw[AM];unfold aAQ;rw[VF];rfl
def aGy:SetTable.runEnd m i-i<=9:=by
 unfold SetTable.runEnd;split<;>omega
def runs:∀(r:Nat)(q:Nat×Nat),∃n,n<=10*r/\JU m n (aAQ m q)=aAQ m (lps m r q)
 |0=>fun q=>⟨0,B4 _,rfl⟩
 |r+1=>fun q=>by
  obtain⟨n,hn,e⟩:=runs (m:=m) r (SetTable.leap m q.1 q.2);have l:=aGy (m:=m) (i:=q.1);refine⟨SetTable.runEnd m q.1-q.1+1+n,by omega,?_⟩;rw[AM,aBe];exact e
section
variable{prog:Uf}{w:World}{A:Ug}{E:T1}{s:Uc}
abbrev TK(prog:Uf)(w:World):HeapKind prog w (Tx Key):=tupleKind (uS prog w)
end
section
variable{prog:Uf}{w:World}{A:Ug}{E:T1}{s:Uc}
abbrev hT(prog:Uf)(w:World)(k:Tx Key):Int:=(TK prog w).hash k
end
section
variable{prog:Uf}{w:World}{A:Ug}{E:T1}{s:Uc}
def JI{a:Type}(xs:Tx a)(p:Nat)(x:a):(xs.take p++x::xs.drop p).Perm (x::xs):=by
 refine List.perm_middle.trans ?_;rw[List.take_append_drop]
end
section
variable{X:Cx}{N':Te}{cap:T5}{scope:Scope}
end
section
variable{X:Cx}{pins:T2}{σ:St}{H:Hp}{s:Uc}{h':Heap}
def Inv.keptL{t':Nat}(I:Inv X pins σ H s)(k:∀b u,b≠X.env.locals->s.heap.get? b=Z u->h'.get? b=Z u)(ns:∀m,s.heap.Ns X.env.locals m->h'.Ns X.env.locals m):
 Inv X pins σ H { s with heap:=h',toks:=t' }:=by
 have nt:∀b u,H b=Z u->b≠X.env.locals:=fun b u e z=>by rw[z,I.free]at e;cases e
 refine I.step (g':=s.gens) (t':=t') (d':=s.drawn) (ch:=[]) (fun _ z=>nomatch z) (fun b o a _ _ e _=>k b o a e) (fun b o a _ _ e _=>⟨o.slots,k b o a e⟩) (fun b o _ e n=>n) (fun b o _ e=>?_) (fun b xs e=>e) (fun b o u e=>e) (fun b ps e=>⟨#[],by simpa using e⟩) ns ?_ I.bare
 .by_cases z:b=X.env.locals
  .subst z;obtain⟨m,hm,_⟩:=I.loc;obtain⟨o',_,_,q,_⟩:=ns m hm;exact⟨o',q⟩
  .exact⟨o,k b o z e⟩
 .intro b u e;refine(I.hok b u e).stay (fun c v d q=>k c v ?_ q) (fun c q=>q) fun c xs q=>q;rcases d with z|z
  .rw[z];exact nt b _ e
  .exact nt c _ z
def Inv.table{t':Nat}{c':Ud}{ps more:Tl}{oc:Obj}(I:Inv X pins σ H s)(hT:H T=Z (.tbl ps))(a:Heap.ExtBut T s.heap h')(c:h'.get? T=Z (W.tabObj (ps++more)))
 (i:s.heap.objs.size<=c') (j:h'.get? c'=Z oc):Inv X pins σ (upd (upd H T (.tbl (ps++more))) c' (.frz oc (.own c'))) { s with heap:=h',toks:=t' }:=by
 have f:H c'=Y:=I.hok.fresh i;have g:∀b,H b=Y->b≠T:=fun b e z=>by rw[z,hT]at e;cases e
 have Tc:T≠c':=fun z=>by rw[<- z,hT]at f;cases f
 have up:∀b u,H b=Z u->(∀ps,u≠.tbl ps)->upd (upd H T (.tbl (ps++more))) c' (.frz oc (.own c')) b=Z u:=fun b u e n=>by
  rw[aU (aW e f),aU (fun z=>by rw[z,hT]at e;exact n _ (D7 e).symm)];exact e
 refine I.step (g':=s.gens) (t':=t') (d':=s.drawn) (ch:=[]) (fun _ z=>nomatch z) (fun b o _ _ _ e n=>a b o (g b n) e) (fun b o _ _ _ e n=>⟨o.slots,a b o (g b n) e⟩) (fun b o _ e n=>?_) (fun b o _ e=>?_) (fun b xs e=>up b _ e fun _ z=>by cases z) (fun b o u e=>up b _ e fun _ z=>by cases z) (fun b l e=>?_) (fun m hm=>hm.extBut a (g _ I.free)) ?_ I.bare
 .rw[aU (C8 (C4 (B7 e) i)),aU (g b n)];exact n
 .by_cases z:b=T
  .exact⟨_,z▸c⟩
  .exact⟨o,a b o z e⟩
 .by_cases z:b=T
  .subst z;rw[hT]at e;cases e;exact⟨more,by rw[aU Tc,bA]⟩
  .exact⟨#[],by rw[aU (aW e f),aU z,e];simp⟩
 .intro b u e;by_cases z:b=c'
  .subst z;rw[bA]at e;cases e;exact⟨j,oc,j⟩
  .rw[aU z]at e;by_cases h:b=T
   .subst h;rw[bA]at e;cases e;exact c
   .rw[aU h]at e;refine(I.hok b u e).stay (fun d v hd q=>a d v ?_ q) (fun d q=>up d _ q fun _ z=>by cases z) fun d xs q=>up d _ q fun _ z=>by cases z
    rcases hd with z3|z3
    .rw[z3];exact h
    .intro k;rw[k,hT]at z3;cases z3
end
def LQ{c d:Ua}(l:T7)(h:TriplesOk l)(hn:codeAmong pos (l++[rawInt a,rawInt b,c])=Z d):codeAmong pos l=Z d\/d=c:=by
 fun_induction TriplesOk l with
 |case1=>
  simp only[List.nil_append,codeAmong,rawInt]at hn;split at hn
  .exact .inr (D7 hn).symm
  .cases hn
 |case2 f t g u x rest ih=>
  simp only[List.cons_append,codeAmong]at hn ⊢;split at hn
  .rename_i e;rw[A4 e];exact .inl hn
  .rename_i e;rw[B2 e];exact ih h hn
 |case3 l i j=>exact h.elim
section
variable{X:Cx}{pins:T2}{σ:St}{H:Hp}{s:Uc}
structure Lam(H H':Hp)(T:Ud)(q:Str):Prop where
 tab:TabAt H' (T,q)
 same:∀b u,b≠T->H b=Z u->H' b=Z u
def SY{params:Arguments}{scope:Scope}{pos:Pos}{c T:Ud}{q:Str}{Q:T1}(I:Inv X pins σ H s)(r:defaultsOf params X.env=([],[]))(hq:X.env.qual++"<lambda>"=q)
 (i:X.env.code=.ref c) (C:W.CodeHd X.base c T) (hT:TabAt H (T,q)) (L:∀y∈scope.names,y.2=.free->∃c,X.env.cells.lookup y.1=Z c)
 (h:∀f c' a pm H' v,Inv X pins σ H' v->Lam H H' T q->v.heap.get? f=Z (W.kla_obj "<lambda>" q params g scope (dJ X.env scope.names []) pm c' a)->v.heap.CodeRec (.ref c') q->s.heap.objs.size<=f->H' c'≠Y->
  (∀b o,s.heap.get? b=Z o->b≠T->v.heap.get? b=Z o)->Q (.ref f) v):
 wpAny (model X.prog X.w) A (eval (.Lambda params g scope pos) X.env) Q E s:=by
 obtain⟨ps,j,tr,M⟩:=hT;have j:H T=Z (.tbl ps):=j;have D:s.heap.get? T=Z (W.tabObj ps):=I.hok T _ j;have nT:∀b,H b=Y->b≠T:=fun b e z=>by rw[z,j]at e;cases e
 have Cs:W.CodeHd s.heap c T:=C.keeps I.bk;have F:s.heap.Ns mainGlobals X.mg:=I.mod.glob.keeps I.bk
 have N:mainGlobals≠T:=fun z=>by
  obtain⟨o,es,ep,e,d,_⟩:=F;rw[z,D]at e;cases e;cases d
 have hb:s.heap.BuiltinsAt X.mg T:=by
  obtain⟨bm,ob,b1,b2,b3,b4,b5,b6⟩:=I.mod.bmn;have p:=I.bk _ _ b3;refine⟨bm,ob,b1,b2,fun z=>?_,fun z=>?_,p,b4,b5,b6⟩
  .obtain⟨o,es,ep,e,d,_⟩:=F;rw[<- z,p]at e;cases e;rw[b6]at d;cases d
  .rw[z,D]at p;cases p;cases b4
 have x:=tP (scope:=scope) (env:=X.env) L;refine W.kla_eval r ?_;rw[hq];cases O:codeAmong pos ps.toList with
 |none=>
  refine W.kla_makeFunction (mg:=X.mg) x I.ok.glob F i Cs D tr O N hb fun c' a h' G hx l P k R=>?_;obtain⟨c2,oc,vs,t,e2,S,hd,hv⟩:=id k;cases e2;have I1:Inv X pins σ (upd (upd H T (.tbl (ps++#[rawInt pos.line,rawInt pos.col,.ref c']))) c' (.frz oc (.own c'))) { s with heap:=h',toks:=G }:=I.table j hx R l S;have m:∀b o,h'.get? b=Z o->(h'.push (W.kla_obj "<lambda>" q params g scope (dJ X.env scope.names []) ((X.mg "__name__").getD .none) c' a)).get? b=Z o:=fun b o e=>A3 _ e;have I2:=I1.kept (t':=G) m;have J:H c'=Y:=I.hok.fresh l;have Tc:T≠c':=fun z=>by rw[<- z,j]at J;cases J
  have up:∀b u,H b=Z u->(∀ps,u≠.tbl ps)->upd (upd H T (.tbl (ps++#[rawInt pos.line,rawInt pos.col,.ref c']))) c' (.frz oc (.own c')) b=Z u:=fun b u e n=>by
   rw[aU (aW e J),aU (fun z=>by rw[z,j]at e;exact n _ (D7 e).symm)];exact e
  refine h h'.objs.size c' a _ _ _ I2 ⟨⟨_,by rw[aU Tc,bA],?_,fun B U e=>?_⟩,fun b u V e=>by rw[aU (aW e J),aU V];exact e⟩ (C6 _ rfl) (k.keeps m) (O7 l (A1j P)) (by rw[bA];simp) fun b o e a0=>m _ _ (hx b o a0 e)
  .rw[Array.toList_append];exact TriplesOk_snoc _ _ _ _ tr
  .rw[Array.toList_append]at e;rcases LQ _ tr e with e|e
   .obtain⟨d,od,u,ws,t',e1,p,e4⟩:=M B U e;exact⟨d,od,u,ws,t',e1,up d _ p (fun _ z=>by cases z),e4⟩
   .exact⟨c',oc,.own c',vs,t,e,bA,hd,hv⟩
 |some U=>
  obtain⟨c',oc,u,vs,t,rfl,f1,f2,f3⟩:=M pos U O;have go:s.heap.get? c'=Z oc:=(I.hok c' _ f1).1;refine W.kla_makeFunctionHit (mg:=X.mg) x I.ok.glob F i Cs D tr O hb fun a h' G hk a1=>?_;have m:∀b o,s.heap.get? b=Z o->(h'.push (W.kla_obj "<lambda>" q params g scope (dJ X.env scope.names []) ((X.mg "__name__").getD .none) c' a)).get? b=Z o:=fun b o e=>A3 _ (hk b o e);refine h h'.objs.size c' a _ _ _ (I.kept (t':=G) m) ⟨⟨ps,j,tr,M⟩,fun b u _ e=>e⟩ (C6 _ rfl) ⟨c',oc,vs,t,rfl,m _ _ go,f2,f3⟩ a1 (by rw[f1];simp) fun b o e _=>m b o e
end
section
variable{X:Cx}{pins:T2}{σ:St}{H:Hp}{s:Uc}
def WH{A:Ug}{kk:Str}{params:Arguments}{scope:Scope}{q:Str}{f C:Ud}{zs:T7}{x:Int}{B:Tok}{h:Heap}{tk:Nat}
 (g:A.depth<recursionLimit) (k:h.NoLimit) (F:Fr h₀ L h m) (N:News h₀ L h c)
 (V:h.get? f=Z (W.kla_obj "<lambda>" q params (.Subscript (.Name ys p1) (.Name kk p2) p3) scope a pm c' D)) (E:h.CodeRec (.ref c') q)
 (G:a.lookup ys=Z C) (I:h.IsCell C (Z (.ref r))) (hr:h.IsList r zs.toArray) (hz:IntsAre zs ns) (h0:0<=x) (hx:x<ns.length) (U:x<2 ^ 62)
 (i:∀cl pm cdv ct v,bindArgs (W.kla_fn "<lambda>" q params (.Subscript (.Name ys p1) (.Name kk p2) p3) scope cl pm cdv ct) ⟨[v],[]⟩=pure [(kk,v)])
 (j:∀y∈scope.names,y.2≠.cell) (J:scope.kind=.function) (M:scope.isCoroutine=false) (l:scope.isGenerator=false) (n:scope.names.lookup kk=Z .local) (O:scope.names.lookup ys=Z .free)
 (hn:(ys==("__classdict__":Str))=false) (P:(ys==("__debug__":Str))=false) (Q:(kk==("__debug__":Str))=false):
 wpAny (model X.prog X.w) A (call (.ref f) [.int x B]) (KskEnd h₀ L m c (ns.getD x.toNat 0) { s with heap:=h,toks:=tk }) (fun _ _=>False) { s with heap:=h,toks:=tk }:=by
 refine wpAny_call (W.kla_callFunE g V rfl M l rfl E ?_);rw[i];refine B5 (wpAny_newFunctionEnv j (fun y hy=>by rw[List.mem_singleton.mp hy];exact n) (fun R S p=>⟨k.fresh _ p,?_⟩) J);have u:∀b o,h.get? b=Z o->R.get? b=Z o:=fun b o e=>p.extBut b o (C8 (B7 e)) (A3 _ e);refine W.kla_codeExpr ?_;refine Subscript_ (wpAny_Name ?_ P)
 have z:R.IsCell C (Z (.ref r)):=by
  obtain⟨o,e,d⟩:=I;exact⟨o,u _ _ e,d⟩
 have T:[(kk,Value.int x B)].reverse.lookup kk=Z (.int x B):=by simp
 refine wpAny_loadName_free (v:=.ref r) J O G z (wpAny_Name ?_ Q) hn;refine wpAny_loadName_local (v:=.int x B) J n S T ?_;refine item_list_intsR (ns:=ns) ?_ hz h0 hx (by omega) fun t=>?_
 .obtain⟨o,e,d⟩:=hr;exact⟨o,u _ _ e,d⟩
 exact⟨R,_,t,rfl,rfl,⟨F.ns.keeps u,fun b o e=>u b o (F.keep b o e),F.above⟩,N.grown u⟩
end
noncomputable def AO:Int×Int->Tx (Int×Int)->Int
 |b,[]=>b.1
 |b,y::r=>AO (if y.2<b.2 then y else b) r
def uZ:∀(r:Tx (Int×Int))(b:Int×Int)(i:Nat)(v:Int×Int),(b::r)[i]?=Z v->(∀(j:Nat)(u:Int×Int),(b::r)[j]?=Z u->v.2<=u.2/\(j<i->v.2<u.2))->AO b r=v.1
 |[]=>fun b i v d _=>by
  cases i with
  |zero=>cases d;rfl
  |succ i=>simp at d
 |y::r=>fun b i v d c=>by
  show AO (if y.2<b.2 then y else b) r=v.1;rcases i with _|_|i
  .cases d;have:=(c 1 y rfl).1;rw[B2 (by omega)];refine uZ r b 0 b rfl fun j u a=>?_;cases j with
   |zero=>cases a;exact⟨Int.le_refl _,fun h=>absurd h (L8 _)⟩
   |succ j=>exact⟨(c (j+2) u a).1,fun h=>absurd h (Nat.not_lt_zero _)⟩
  .cases d;have:=(c 0 b rfl).2 (by omega);rw[A4 this];refine uZ r y 0 y rfl fun j u a=>?_;cases j with
   |zero=>cases a;exact⟨Int.le_refl _,fun h=>absurd h (L8 _)⟩
   |succ j=>exact⟨(c (j+2) u a).1,fun h=>absurd h (Nat.not_lt_zero _)⟩
  .refine uZ r _ (i+1) v d fun j u a=>?_;cases j with
   |zero=>
    cases a;have e:=(c 0 b rfl).2 (by omega);have f:=(c 1 y rfl).2 (by omega);split
    .exact⟨by omega,fun _=>f⟩
    .exact⟨by omega,fun _=>e⟩
   |succ j=>
    have:=c (j+2) u a;exact⟨this.1,fun h=>this.2 (by omega)⟩
def FL(xs zs:T9):Int:=match xs with
 |[]=>0
 |x::r=>AO (x,zs.getD x.toNat 0) (r.map fun y=>(y,zs.getD y.toNat 0))
def aCV{xs zs:T9}{i:Nat}{v:Int}(b:xs[i]?=Z v)(d:∀j,j<xs.length->zs.getD (xs.getD i 0).toNat 0<=zs.getD (xs.getD j 0).toNat 0/\(j<i->zs.getD (xs.getD i 0).toNat 0<zs.getD (xs.getD j 0).toNat 0)):FL xs zs=v:=by
 cases xs with
 |nil=>simp at b
 |cons x r=>
  have e:(x,zs.getD x.toNat 0)::r.map (fun y=>(y,zs.getD y.toNat 0))=(x::r).map fun y=>(y,zs.getD y.toNat 0):=rfl;have f:(x::r).getD i 0=v:=by rw[A8,b];rfl
  refine uZ (r.map fun y=>(y,zs.getD y.toNat 0)) (x,zs.getD x.toNat 0) i (v,zs.getD v.toNat 0) (by rw[e,D6,b];rfl) fun j u a=>?_;rw[e,D6]at a;cases c:(x::r)[j]? with
  |none=>rw[c]at a;cases a
  |some y=>
   rw[c]at a;cases a;have g:(x::r).getD j 0=y:=by rw[A8,c];rfl
   have:=d j (List.getElem?_eq_some_iff.mp c).1;rw[f,g]at this;exact this
def ZO(K:Fg)(T:Ud)(q:Str)(i:Nat)(t:TA):TE:=fun c H Q=>t c H fun vs a=>∃p r xs b,vs=[.ref p]/\SqL K a p (xs.map V.int)/\0<xs.length/\c[i]?=Z (Z (.ref r))/\SqL K a r (b.map V.int)/\(∀x∈xs,0<=x/\x<b.length)/\TabAt a (T,q)/\∀d,Lam a d T q->Q (.int (FL xs b)) d
def SqL.lam{T:Ud}(l:Lam H H' T q)(t:TabAt H (T,q))(h:SqL K H p vs):SqL K H' p vs:=by
 obtain⟨ps,e,_⟩:=t;have e:H T=Z (.tbl ps):=e;rcases h with(h|⟨o,h⟩)|h
 .exact .inl (.inl (l.same _ _ (fun z=>by rw[z,e]at h;cases h) h))
 .exact .inl (.inr ⟨o,l.same _ _ (fun z=>by rw[z,e]at h;cases h) h⟩)
 .exact .inr h
def OU(K:Fg)(cdv:Ua)(T:Ud):Prop:=∃c,cdv=.ref c/\∀h,K.In h->W.CodeHd h c T
section
variable{X:Cx}
def aDp{i:Nat}{ys kk:Str}{a:Ue}{t:TA}{p pos p1 p2 p3 lp kp:Pos}{params:Arguments}{scope:Scope}{q:Str}{T:Ud}(hc:X.calm=true)(G:X.A.in1.depth<recursionLimit)(hg:Gl X "min")(hm:X.mg "min"=Y)(ha:PA X [a] t)
 (hN:X.N[i]?=Z ys) (hv:X.env.kindOf ys=Z .cell\/X.env.kindOf ys=Z .free) (a0:defaultsOf params X.env=([],[])) (hq:X.env.qual++"<lambda>"=q) (CK:OU X.K X.env.code T) (a1:∀y∈scope.names,y.2=.free->X.env.kindOf y.1=Z .cell\/X.env.kindOf y.1=Z .free)
 (J:∀cl pm cdv ct v,bindArgs (W.kla_fn "<lambda>" q params (.Subscript (.Name ys p1) (.Name kk p2) p3) scope cl pm cdv ct) ⟨[v],[]⟩=pure [(kk,v)])
 (L:∀y∈scope.names,y.2≠.cell) (hk:scope.kind=.function) (a9:scope.isCoroutine=false) (a2:scope.isGenerator=false) (aa:scope.names.lookup kk=Z .local) (a3:scope.names.lookup ys=Z .free)
 (hn:(ys==("__classdict__":Str))=false) (ab:(ys==("__debug__":Str))=false) (ac:(kk==("__debug__":Str))=false)
 (he:backTo pos (starEach [a] X.env)=(false,eval a X.env)::backTo pos (starEach [] X.env):=by rfl) (ae:(backTo pos (starEach [a] X.env)).any (·.1)=false:=by rfl):
 PE X (.Call (.Name "min" p) [a] [⟨Z "key",.Lambda params (.Subscript (.Name ys p1) (.Name kk p2) p3) scope lp,kp⟩] pos) (ZO X.K T q i t):=by
 intro pins s σ H Q I h;obtain⟨c,M,C⟩:=CK;refine Y8 (jD I hg hm (u:=.builtin "min") (by decide +kernel) ?_ (by decide) (by decide));refine callWith_kw (thn (ha pos pins s σ H _ I h) fun us s1 ⟨vs,H1,I1,r1,q1⟩=>?_) he ae;obtain⟨l,r,xs,zs,rfl,hl,ay,hr,af,ag,hT,ah⟩:=q1;obtain⟨u,rfl,ru⟩:=vals1 r1;cases ru;refine kws_cons (SY I1 a0 hq M (C _ I1.mod.kin) hT (fun y hy e=>I1.ok.has y.1 (a1 y hy e)) fun f c' az pm H2 s2 D lm gf ai hf b0 hold=>kws_nil ?_);obtain⟨O,rv,pl,hz⟩:=D.list (hl.lam lm hT);obtain⟨a4,aj,pr,ak⟩:=D.list (af.lam lm hT);have hi:=intsAre_of rv;have hj:=intsAre_of aj;obtain⟨m,F⟩:=D.fr;have N:News X.base X.env.locals s2.heap (jK X.base s2.heap X.env.locals):=JO
 have kp:∀(g:Heap),Fr X.base X.env.locals g m->News X.base X.env.locals g (jK X.base s2.heap X.env.locals)->∀b o,b≠X.env.locals->s2.heap.get? b=Z o->g.get? b=Z o:=fun g G1 M1 b o hb e=>by
  cases z:X.base.get? b with
  |some v=>
   have:=D.bk b v z;rw[e]at this;cases this;exact G1.keep b _ z
  |none=>exact(M1 (b,o) (qE hb z e)).1
 have w:∀b o,s2.heap.get? b=Z o->(∀es ep,o.data≠.dict es ep)->b≠X.env.locals:=fun b o e n z=>by
  obtain⟨o',es,ep,x1,x2,_⟩:=F.ns;subst z;rw[e]at x1;cases x1;exact n es ep x2
 have a5:∀(b:Ud)(vs:T7),s2.heap.IsList b vs.toArray->∀g,Fr X.base X.env.locals g m->News X.base X.env.locals g (jK X.base s2.heap X.env.locals)->g.IsList b vs.toArray:=fun b vs hb g F1 U=>by
  obtain⟨o,e,d⟩:=hb;obtain⟨n,d'⟩:=id d.2;exact⟨o,kp g F1 U b o (w b o e fun es ep z=>by rw[d']at z;cases z) e,d⟩
 obtain⟨mm,b1,a6⟩:=D.loc;obtain⟨u,ru,lk⟩:=a6 i ys (.ref r) hN hr (hv.elim (fun z=>.inr (.inl z)) fun z=>.inr (.inr z));cases ru
 obtain⟨P,am,ao⟩:∃P,X.env.cells.lookup ys=Z P/\s2.heap.IsCell P (Z (.ref r)):=by
  rcases lk with⟨R,_⟩|⟨_,c0,g,h2⟩
  .rcases hv with z|z<;>rw[z]at R<;>cases R
  .exact⟨c0,g,h2⟩
 have a7:(dJ X.env scope.names []).lookup ys=Z P:=by
  obtain⟨c1,e1⟩:=rN (env:=X.env) scope.names [] ys (.inl (L9 a3));have:=vV scope.names [] (fun y hy e=>D.ok.has y.1 (a1 y hy e)) (fun x c e=>by simp at e) ys c1 e1;rw[am]at this;cases this;exact e1
 have av:O.length=xs.length:=by have:=hi.length;omega
 have aw:a4.length=zs.length:=by have:=hj.length;omega
 have ax:zs.length<2 ^ 62:=by
  have:=ak;rw[A0,S7]at this;omega
 refine kmk_min (vs:=O) (fun j=>zs.getD (xs.getD j 0).toNat 0) (D.ok.hd hc) F N (a5 l O pl.isList) (by omega) (fun j v B g tk own F1 U=>?_) fun j v g tk B hb F1 U=>?_
 .have E:News X.base X.env.locals g (jK X.base s2.heap X.env.locals):=fun z hz=>U z (D4 _ hz);have S:j<xs.length:=by have:=(List.getElem?_eq_some_iff.mp B).1;omega
  obtain⟨x,V⟩:∃x,xs[j]?=Z x:=⟨_,B1 S⟩;obtain⟨t',ht⟩:=hi.get j x V;rw[B]at ht;cases ht;have gx:xs.getD j 0=x:=by rw[A8,V];rfl
  rw[gx];obtain⟨x0,x1⟩:=ag x (Y9 V)
  have a8:g.IsCell P (Z (.ref r)):=by
   obtain⟨o,e,d⟩:=ao;exact⟨o,kp g F1 E P o (w P o e fun es ep z=>by rw[d]at z;cases z) e,d⟩
  have ap:=kp g F1 E f _ (w f _ gf fun es ep z=>by cases z) gf
  have aq:g.CodeRec (.ref c') q:=by
   obtain⟨c2,o,vs,t2,e1,e2,e3⟩:=ai;exact⟨c2,o,vs,t2,e1,kp g F1 E c2 o (w c2 o e2 fun es ep z=>by rw[e3.1]at z;cases z) e2,e3⟩
  have ar:g.NoLimit:=D.ok.mod.nolimit.keeps F1.keep;exact WH (X:=X) G ar F1 U ap aq a7 a8 (a5 r a4 pr.isList g F1 E) hj x0 x1 (by omega) J L hk a9 a2 aa a3 hn ab ac
 .have S:j<xs.length:=by have:=(List.getElem?_eq_some_iff.mp B).1;omega
  obtain⟨x,V⟩:∃x,xs[j]?=Z x:=⟨_,B1 S⟩;obtain⟨t',ht⟩:=hi.get j x V;rw[B]at ht;cases ht;have mk:FL xs zs=x:=aCV V fun k R=>hb k (by omega);refine⟨.int x,H2,D.keptL (t':=tk) (kp g F1 U) (fun m' au=>?_),⟨t',rfl⟩,mk▸ah H2 lm⟩;rw[<- OZ F.ns au];exact F1.ns
end
section
variable{K:Fg}
def pN(K:Fg)(T:Ud)(q:Str):Prop:=lW K=[(T,q)]
def IA(i:Nat)(fa:AF):EF:=fun a M=>(fa a M).bind fun r=>match r.1,a[i]? with
 |[.d (.list ds)],some (some (.d (.list es)))=>(cN ds).bind fun xs=>(cN es).bind fun b=>if 0<xs.length/\xs.all (fun x=>decide (0<=x)&&decide (x<b.length))=true then Z (.d (.int (FL xs b)),r.2)else Y
 |_,_=>Y
def Good.lam{W:Wd}(g:Good K W M H)(o:pN K T q)(l:Lam H H' T q):Good K W M H':=by
 obtain⟨d,ps,e,_⟩:=g.tb (T,q) (by rw[show lW K=[(T,q)]from o];exact List.mem_singleton.mpr rfl);have e:H T=Z (.tbl ps):=e;have d:W.F T=Y:=d;refine⟨fun b u f=>l.same b u (fun z=>by rw[z,d]at f;cases f) (g.fh b u f),g.n,fun i c hi k=>?_,g.inj,fun x m=>?_⟩
 .obtain⟨p,o',h,j⟩:=g.cs i c hi k;exact⟨p,o',l.same _ _ (fun z=>by rw[z,e]at h;exact j.nt.1 ps (D7 h).symm) h,j⟩
 .have a:=m;rw[show lW K=[(T,q)]from o]at a;rw[List.mem_singleton.mp a];exact⟨d,l.tab⟩
def aCW{T:Ud}{q:Str}{i:Nat}{t:TA}{fa:AF}(o:pN K T q)(a:SA K t fa):SE K (ZO K T q i t) (IA i fa):=by
 intro P M x M' b W H z Q G R k;obtain⟨⟨S,M1⟩,A,b⟩:=aM b;revert b;dsimp only;split
 .rename_i ds es j;intro b;obtain⟨xs,B,b⟩:=aM b;obtain⟨u,C,b⟩:=aM b;by_cases g:0<xs.length/\xs.all (fun x=>decide (0<=x)&&decide (x<u.length))=true
  .rw[A4 g]at b;cases b;refine a _ _ _ _ A W H z _ G R fun vs c U v h l=>?_;rcases l with _|⟨l,_|_⟩;obtain⟨p,us,rfl,D,w⟩:=(show ∃a us,_=V.ref a/\SqL K c.F a us/\aL K c.F ds us from l);rw[oG B]at w;have E:=iC w;subst E;obtain⟨I,m,e⟩:=Paired.get R j;cases I with
   |none=>exact False.elim e
   |some y=>
    obtain⟨r,J,rfl,n,f⟩:=(show ∃a us,y=V.ref a/\SqL K c.F a us/\aL K c.F es us from dI.up (x:=.d (.list es)) (show dI K W (.d (.list es)) y from e) v);rw[oG C]at f;have s:=iC f;subst s;refine⟨p,r,xs,u,rfl,h.fh.seq D,g.1,m,h.fh.seq n,fun x L=>?_,(h.tb (T,q) (by rw[show lW K=[(T,q)]from o];exact List.mem_singleton.mpr rfl)).2,fun N O=>k _ c N v (h.lam o O) rfl⟩;have:=List.all_eq_true.mp g.2 x L;rw[B8,E5,E5]at this;exact this
  .rw[B2 g]at b;cases b
 .intro b;cases b
end
section
variable{ι:Type}{K:Fg}{X:ι->Cx}
def aDr(i:Nat){ys kk:Str}{a:Ue}{fa:AF}{p pos kp:Pos}{params:Arguments}{scope:Scope}(o:pN K T q)(h:∀j,(X j).K=K)(k:∀j,(X j).calm=true)(b:∀j,(X j).A.in1.depth<recursionLimit)(hm:∀j,(X j).mg "min"=Y)(ha:MA K X [a] fa)
 (l:∀j,(X j).N[i]?=Z ys) (m:∀j,(X j).env.kindOf ys=Z .cell) (n:∀j,(X j).env.qual++"<lambda>"=q) (CK:∀j,OU K (X j).env.code T)
 (f:∀j,∀y∈scope.names,y.2=.free->(X j).env.kindOf y.1=Z .cell\/(X j).env.kindOf y.1=Z .free)
 (c:∀cl pm cdv ct v,bindArgs (W.kla_fn "<lambda>" q params (.Subscript (.Name ys p1) (.Name kk p2) p3) scope cl pm cdv ct) ⟨[v],[]⟩=pure [(kk,v)])
 (d:(scope.names.all (fun y=>y.2 != .cell)&&(scope.kind==.function)&&!scope.isCoroutine&&!scope.isGenerator&&(scope.names.lookup kk==Z .local)&&(scope.names.lookup ys==Z .free)&&!(ys==("__classdict__":Str))&&!(ys==("__debug__":Str))&&!(kk==("__debug__":Str)))=true)
 (r:∀j,Gl (X j) "min":=by intro _;rfl) (e:∀env:Env,defaultsOf params env=([],[]):=by intro _;rfl)
 (s:∀env:Env,backTo pos (starEach [a] env)=(false,eval a env)::backTo pos (starEach [] env):=by intro _;rfl) (g:∀env:Env,(backTo pos (starEach [a] env)).any (·.1)=false:=by intro _;rfl):
 ME K X (.Call (.Name "min" p) [a] [⟨Z "key",.Lambda params (.Subscript (.Name ys p1) (.Name kk p2) p3) scope lp,kp⟩] pos) (IA i fa):=by
 obtain⟨t,u,w⟩:=ha.ex;simp only[Bool.and_eq_true,List.all_eq_true,bne_iff_ne,beq_iff_eq,Bool.not_eq_true']at d;obtain⟨⟨⟨⟨⟨⟨⟨⟨s1,s2⟩,x⟩,z⟩,B⟩,C⟩,D⟩,E⟩,F⟩:=d;refine⟨ZO K T q i t,fun j=>?_,aCW o w⟩;have:=aDp (X:=X j) (i:=i) (ys:=ys) (kk:=kk) (a:=a) (t:=t) (p:=p) (pos:=pos) (p1:=p1) (p2:=p2) (p3:=p3) (lp:=lp) (kp:=kp) (params:=params) (scope:=scope) (q:=q) (T:=T) (k j) (b j) (r j) (hm j) (u j) (l j) (.inl (m j)) (e _) (n j) (by rw[h j];exact CK j) (f j) c (fun y G=>by simpa using s1 y G) s2 x z B C D E F (s _) (g _);rw[h j]at this;exact this
end
def aAy(o:Obj)(c:Ud):Tk:=match o.data with
 |.fields vs=>match (vs[11]?:Ti),vs.getD 18 .none,vs.getD 7 .none,vs.getD 9 .none,vs.getD 10 .none with
  |some (Value.ref T),.str _ _,.int _ _,.bool _,.int _ _=>if o.cls=.type "code"/\c≠T then Z T else Y
  |_,_,_,_,_=>Y
 |_=>Y
def wO(K:Fg)(x:Str):Bool:=K.all fun p=>match p.2.data with
 |.func fd=>if fd.name=x then(match fd.code with
  |.ref c=>(match K.lookup c with
   |some o=>(aAy o c).isSome
   |none=>false)
  |_=>false)else true
 |_=>true
def aCB{T:Ud}(h:aAy o c=Z T){a:Heap}(e:a.get? c=Z o):W.CodeHd a c T:=by
 unfold aAy at h;split at h
 .rename_i vs hd;split at h
  .rename_i s f g i j k l m b n p q r;split at h
   .rename_i d;cases h;refine⟨o,vs,f,g,i,j,k,l,m,e,d.1,hd,b,?_,n,p,q,r,d.2⟩;rw[J9,b];rfl
   .cases h
  .cases h
 .cases h
def ZG{T:Ud}(h:aAy o c=Z T)(l:K.lookup c=Z o):tabOf K (.ref c)=Z T:=by
 unfold tabOf;dsimp only;rw[l];dsimp only;unfold aAy at h;split at h
 .rename_i vs hd;split at h
  .rename_i b d e f g i j k a m n p q;split at h
   .cases h
    first|rw[a]|(rw[hd];dsimp only;rw[a])
   .cases h
  .cases h
 .cases h
def KW{a:Ud}{o:Obj}:∀{K:Fg},K.lookup a=Z o->(a,o)∈K
 |[]=>fun h=>by cases h
 |(b,u)::K=>fun h=>by
  rw[F9]at h;cases e:a==b with
  |true=>rw[e]at h;cases h;rw[eq_of_beq e];exact A9
  |false=>rw[e]at h;exact B0 _ (KW h)
def CO{o:Obj}{fd:FuncData}(h:wO K x=true)(l:K.lookup f=Z o)(hd:o.data=.func fd)(hn:fd.name=x):∃c T,fd.code=.ref c/\tabOf K fd.code=Z T/\OU K fd.code T:=by
 have:=List.all_eq_true.mp h (f,o) (KW l);dsimp only at this;rw[hd]at this;dsimp only at this;rw[A4 hn]at this;split at this
 .rename_i c a;split at this
  .rename_i oc b;obtain⟨T,hT⟩:=Option.isSome_iff_exists.mp this;exact⟨c,T,a,by rw[a];exact ZG hT b,c,a,fun e d=>aCB hT (d _ _ b)⟩
  .cases this
 .cases this
section
variable{P:Uf}{w:World}{K:Fg}{mg:Str->Ti}
def OQ{x:Str}{T:Ud}{o:Obj}{fd:FuncData}(l:K.lookup f=Z o)(hd:o.data=.func fd)(hn:fd.name=x)(a:uJ.contains x=true)(ht:tabOf K fd.code=Z T):(T,fd.qualname++".<locals>.<lambda>")∈lW K:=by
 unfold lW;refine List.mem_filterMap.mpr ⟨(f,o),KW l,?_⟩;dsimp only;rw[hd];dsimp only;rw[hn,A4 a,ht];rfl
def Def.okT{base:Heap}{x:Str}{st:Stmt}{N ps:Te}{k:Nat}{b:SF}{T:Ud}{j:Str}(D:Def K mg x st)(ct:wO K x=true)(o:pN K T j)(d:uJ.contains x=true)(S:bC N ps (aN st))
 (u:∀(kV doc pm:Ua)(an:Tk)(cdv ct:Ua)(us:T7),us.length=ps.length->bindArgs (PySem.W.fnOf x x (gK st) (cS st) (aN st) .none kV doc pm an cdv ct) ⟨us,[]⟩=pure (ps.zip us))
 (e:∀(f:Ud)(cdv:Ua)(A:Ug)(outer:Tx Env)(s:Uc)(H:Hp)(E:XK),OU K cdv T->eJ k (A.deeper (envOfC x (aN st) s.heap.objs.size f cdv)) true->
  ML K (fun _:Unit=>(nZ CX0 P w K mg base N x (aN st) f cdv A outer s H E true).nox) (cS st) b):Callee P w K mg base (k+1) x ps (spM K (fnF ps.length N.length b)) true:=by
 have len:∀vs H Q E,spM K (fnF ps.length N.length b) vs H Q E->vs.length=ps.length:=fun vs H Q E h=>by
  obtain⟨xs,M,W,y,M',G,R,a,_⟩:=h;by_cases d:xs.length=ps.length
  .rw[<- Paired.len R];exact d
  .unfold fnF at a;rw[B2 d]at a;cases a
 obtain⟨f,fd,F,m⟩:=D.ex;have Fb:=F.binds u;obtain⟨oc,od,kV,doc,pm,an,cdv,z,osl,rfl,lk,g⟩:=id F.ex;obtain⟨c,B,i,C,I⟩:=CO ct lk rfl rfl
 have J:B=T:=by
  have:=OQ lk rfl rfl d C;rw[show lW K=[(T,j)]from o]at this;exact C9 Prod.fst (List.mem_singleton.mp this)
 subst J;refine⟨f,_,VD lk g S len fun A outer s H vs Q E L h=>?_,m,F.kp,Fb⟩;obtain⟨t,O,hS⟩:=(e f cdv A outer s H E I L).ex;refine⟨t,(O ()).nox,?_⟩;obtain⟨xs,M,W,y,M',G,R,a,k⟩:=h;by_cases d:xs.length=ps.length
 .unfold fnF at a;rw[A4 d]at a;obtain⟨⟨o,M1⟩,U,a⟩:=aM a
  have V:dA K W (xs.map Z++List.replicate (N.length-xs.length) Y) (start N vs):=by
   unfold start;rw[<- Paired.len R];exact Paired.app (bK.some R) (rD _)
  refine hS _ _ _ _ U W H _ _ G V fun l n i p=>?_;cases o with
  |rt x=>cases a;exact fun v r=>k v l n i p r
  |nx q=>cases a;exact fun X r=>k .non l n i p rfl
  |bk q=>cases a
  |ct q=>cases a
 .unfold fnF at a;rw[B2 d]at a;cases a
def WY(T:Ud)(H:Hp):Prop:=H T=Z (.tbl #[])/\∀b,b≠T->H b=Y\/∃o xs,H b=Z (.frz o (.lst xs))
def UQ{a:Ud}{x:Str}{sp:Sp}{f:Uc}{vs:T7}
 (KX:K.In f.heap) (C:f.heap.Ns mainGlobals mg) (j:f.heap.Ns builtinsNs mb) (M:∀x:Str,x≠"__name__"->mb x=bootBuiltins x) (D:f.heap.NoLimit) (N:∃mm,f.heap.Ns sysModules mm)
 (O:∃bm ob,mg "__builtins__"=Z (.ref bm)/\bm≠builtinsNs/\f.heap.get? bm=Z ob/\ob.cls=.type "module"/\ob.dict=Z builtinsNs/\ob.data=.plain) (hg:f.gens=#[])
 (hT:f.heap.TableAt c T #[]) (Q:K.lookup T=Y)
 (ha:f.heap.get? a=Z { cls:=.type "list",data:=.seq vs.toArray }) (hi:IntsAre vs ns) (hl:ns.length<=sizeLine) (hr:eJ k callerA)
 (F:∀base:Heap,K.In base->base.Ns mainGlobals mg->mY P w K mg base CX0 k fa fd [x] sp) (B:∀(s:Uc)(u:Ua),BindsTo s fd ⟨[u],[]⟩ [(x,u)])
 (R:∀H:Hp,WY T H->SqL K H a (ns.map V.int)->sp [.ref a] H (fun v _=>v=.bl true) fun _ _ _=>False):
 codeAny (model P w) callerA (.call (.ref fa) ⟨[.ref a],[]⟩) (fun r p=>r=.ok (.ret (.bool true))/\OldK f.heap p.heap/\p.os=f.os/\AllBare p.gens) f:=by
 have rv:=vM hi;have E:=hi.length;have G:f.heap.get? T=Z { cls:=.none,data:=.fields #[] }:=hT.2;have aT:a≠T:=fun z=>by rw[z,G]at ha;cases ha
 have y:∀H:Hp,WY T H->SqL K H a (ns.map V.int)->HOk P w H f.heap->(∀b,H b≠Y->b=a\/b=T)->(H a≠Y->K.lookup a=Y)->
  codeAny (model P w) callerA (.call (.ref fa) ⟨[.ref a],[]⟩) (fun r p=>r=.ok (.ret (.bool true))/\OldK f.heap p.heap/\p.os=f.os/\AllBare p.gens) f:=by
  intro H S hS hok hA hK;have i:∀{b:Ud}{o:Obj},f.heap.get? b=Z o->H b=Y->(uR f.heap H).get? b=Z o:=fun e n=>JC e n
  have I:∀{b:Ud}{o:Obj},f.heap.get? b=Z o->(∀us n,o.data≠.seq us n)->(∀us,o.data≠.fields us)->H b=Y:=fun{b o} e d1 d2=>by
   cases q:H b with
   |none=>rfl
   |some u=>
    rcases hA b (by rw[q];simp)with e'|e'
    .subst e';rw[ha]at e;cases e;exact absurd rfl (d1 _ _)
    .subst e';rw[G]at e;cases e;exact absurd rfl (d2 _)
  have l:∀{b:Ud}{m:Str->Ti},f.heap.Ns b m->(uR f.heap H).Ns b m:=fun{b m} ⟨o,es,ep,e,d,r⟩=>⟨o,es,ep,i e (I e (fun us n z=>by rw[d]at z;cases z) fun us z=>by rw[d]at z;cases z),d,r⟩
  have J:K.In (uR f.heap H):=fun b o e=>i (KX b o e) (by
   cases q:H b with
   |none=>rfl
   |some u=>
    rcases hA b (by rw[q];simp)with e'|e'
    .subst e';rw[hK (by rw[q];simp)]at e;cases e
    .subst e';rw[Q]at e;cases e)
  have hM:Mod K mg (uR f.heap H):=⟨J,l C,⟨mb,l j,M⟩,(let⟨mc,U,W⟩:=D;⟨mc,l U,W⟩),(let⟨mm,X⟩:=N;let⟨o,es,ep,U,W,_⟩:=l X;⟨o,es,ep,U,W⟩),
   (let⟨bm,ob,b1,b2,b3,b4,b5,b6⟩:=O;⟨bm,ob,b1,b2,i b3 (I b3 (fun us n z=>by rw[b6]at z;cases z) fun us z=>by rw[b6]at z;cases z),b4,b5,b6⟩)⟩
  have e0:YB P w K mg (uR f.heap H) callerA [] f H:=⟨rfl,hM,fun b o e=>RK e,Nat.le_of_eq (CF _ _),trivial,fun b j=>absurd (show b∈([]:Td)from j) (by simp),hok,.of_eq hg⟩;refine A1c ((F _ J (l C)).run callerA [] f H ⟨[.ref a],[]⟩ [.ref a] [.ref a] _ _ hr e0 (B f (.ref a)) (.cons rfl .nil) (R H S hS)) fun r p h=>?_;cases r with
  |error e=>exact False.elim h
  |ok fl=>
   cases fl with
   |next=>exact False.elim h
   |brk=>exact False.elim h
   |cont=>exact False.elim h
   |ret u=>
    obtain⟨v,H',os,bare,un,A,r',q⟩:=h;have q':v=.bl true:=q;subst q';obtain rfl:u=Value.bool true:=r'
    have kept:∀b o,b≠T->f.heap.get? b=Z o->p.heap.get? b=Z o:=fun b o g e=>by
     cases q:H b with
     |none=>exact un.keep b o e q (by intro z;exact absurd (show b∈([]:Td)from z) (by simp)) (by simp)
     |some u=>
      rcases S.2 b g with z|⟨ob,xs,z⟩
      .rw[q]at z;cases z
      .have z2:=un.frzs b ob _ z;obtain⟨e1,_⟩:=hok b _ z;obtain⟨e2,_⟩:=A b _ z2;rw[e]at e1;cases e1;exact e2
    obtain⟨more,hm⟩:=un.tbls T #[] S.1;have L:p.heap.get? T=Z { cls:=.none,data:=.fields (#[]++more) }:=A T _ hm;refine⟨rfl,⟨fun b o e=>?_,fun b o e=>?_⟩,os,bare⟩
    .by_cases g:b=T
     .subst g;rw[G]at e;cases e;exact .inr (.inl ⟨hT.isCodeTable,rfl,#[],more,rfl,L⟩)
     .exact .inl (kept b o g e)
    .by_cases g:b=T
     .subst g;exact⟨_,L⟩
     .exact⟨o,kept b o g e⟩
 cases hk:K.lookup a with
 |some o=>
  have e:=KX a o hk;rw[ha]at e;cases e;refine y (fun b=>if b=T then Z (.tbl #[])else Y) ⟨A4 rfl,fun b g=>.inl (B2 g)⟩ (.inr ⟨_,vs.toArray,_,hk,rfl,rfl,rfl,by rw[C5,E];exact hl,by simpa using rv⟩) (fun b u z=>?_) (fun b z=>?_) fun z=>absurd (B2 aT) z
  .by_cases g:b=T
   .have t:=(A4 g).symm.trans z;cases t;subst g;exact G
   .have t:=(B2 g).symm.trans z;cases t
  .by_cases g:b=T
   .exact .inr g
   .exact absurd (B2 g) z
 |none=>
  refine y (fun b=>if b=T then Z (.tbl #[])else if b=a then Z (.frz { cls:=.type "list",data:=.seq vs.toArray } (.lst (ns.map V.int)))else Y) ⟨A4 rfl,fun b g=>?_⟩ (.inl (.inr ⟨{ cls:=.type "list",data:=.seq vs.toArray },(B2 aT).trans (A4 rfl)⟩)) (fun b u z=>?_) (fun b z=>?_) fun _=>hk
  .by_cases j:b=a
   .exact .inr ⟨_,_,(B2 g).trans (A4 j)⟩
   .exact .inl ((B2 g).trans (B2 j))
  .by_cases g:b=T
   .have t:=(A4 g).symm.trans z;cases t;subst g;exact G
   .by_cases j:b=a
    .have t:=((B2 g).trans (A4 j)).symm.trans z;cases t;subst j;exact⟨ha,by rw[A0];exact hl,vs,_,rv,ha⟩
    .have t:=((B2 g).trans (B2 j)).symm.trans z;cases t
  .by_cases g:b=T
   .exact .inr g
   .by_cases j:b=a
    .exact .inl j
    .exact absurd ((B2 g).trans (B2 j)) z
end
def aCY{F:FN}(p:∀ns:T9,ns.length<=63->∃M',F [.d (.list (ns.map .int))] []=Z (.d (.bool true),M')){ns:T9}(q:ns.length<=63)(hS:SqL K H a (ns.map V.int))(o:pN K T g)(k:WY T H)(E:XK):
 spM K F [.ref a] H (fun v _=>v=.bl true) E:=by
 obtain⟨M',h⟩:=p ns q
 have ne:∀b u,H b=Z u->(∀ps,u≠.tbl ps)->(if b=T then Y else H b)=Z u:=fun b u e n=>by
  rw[B2 (fun z=>by rw[z,k.1]at e;exact n _ (D7 e).symm)];exact e
 have f:SqL K (fun b=>if b=T then Y else H b) a (ns.map V.int):=by
  rcases hS with(h|⟨o,h⟩)|h
  .exact .inl (.inl (ne _ _ h fun _ z=>by cases z))
  .exact .inl (.inr ⟨o,ne _ _ h fun _ z=>by cases z⟩)
  .exact .inr h
 have tb:TabsOk K (fun b=>if b=T then Y else H b) H:=fun x l=>by
  rw[show lW K=[(T,g)]from o]at l;rw[List.mem_singleton.mp l];exact⟨A4 rfl,#[],k.1,True.intro,fun pos s e=>by cases e⟩
 have fh:kH (fun b=>if b=T then Y else H b) H:=fun b u e=>by
  have e:(if b=T then Y else H b)=Z u:=e;by_cases z:b=T
  .rw[A4 z]at e;cases e
  .rw[B2 z]at e;exact e
 exact⟨[.d (.list (ns.map .int))],[],⟨fun b=>if b=T then Y else H b,fun _=>0,0⟩,_,M',⟨fh,rfl,fun i c h=>by simp at h,fun i j c c' h=>by simp at h,tb⟩,.cons (show ∃m vs,V.ref a=.ref m/\SqL K (fun b=>if b=T then Y else H b) m vs/\aL K (fun b=>if b=T then Y else H b) (ns.map .int) vs from⟨a,ns.map V.int,rfl,f,uC ns⟩) .nil,h,fun v W' H' _ _ r=>r⟩
def law_walk2{l:W.OpenLaw}{YP:World->Heap->Prop}{d:DefRec}{K:Params->Fg}{F:FN}{p xd:Str}(V:PyProof.Rows.importsNone q=true)(hn:l.most=Z 63)(v:d.params.defaults=[])(X:eJ k callerA)
 (hY:∀(w:World)(h:Heap),YP w h->(K w.params).In h) (n:((recsOf q).any fun d=>d.name==xd)=true) (r:uJ.contains xd=true)
 (hT:∀(w:World)(mg:Str->Ti)(h:Heap),(K w.params).In h->h.Ns mainGlobals mg->(∃f fd,mg d.name=Z (.ref f)/\(∀(s:Uc)(u:Ua),BindsTo s fd ⟨[u],[]⟩ [(p,u)])/\∀base,mY l.prog w (K w.params) mg base CX0 k f fd [p] (spM (K w.params) F)) /\
  ∃T x st,pN (K w.params) T x/\(K w.params).lookup T=Y/\Def (K w.params) mg xd st/\wO (K w.params) xd=true)
 (hF:∀ns:T9,ns.length<=63->∃M',F [.d (.list (ns.map .int))] []=Z (.d (.bool true),M')):
 W.WalkO q loose XP YP l.row.toRowW d [] (fun f vs=>PySem.call f vs):=by
 refine Att.attach_call hn v fun w s₀ J mg mb fa o pm cd doc a vs ns G c ho hd a0 y t j i hg=>?_;have KX:=hY w _ c;obtain⟨⟨f,fd,m,hb,hf⟩,T,x,st,L,nT,D,ck⟩:=hT w mg _ KX G.T.g;have e:(Z (Value.ref f))=Z (.ref fa):=m.symm.trans y;cases e;obtain⟨M,z,A⟩:=List.any_eq_true.mp n;have A:M.name=xd:=eq_of_beq A;obtain⟨a2,o2,a1,c2,P2,N,O,k2,e2,_,P⟩:=G.T.tab M z;obtain⟨f3,a3,F3,m3⟩:=D.ex;obtain⟨oc,od,kV,Q,a4,an,cdv,a5,osl,rfl,lk,_⟩:=F3.ex;obtain⟨c4,T4,e4,B,c5,e5,C⟩:=CO ck lk rfl rfl;rw[A,m3]at N;cases N;rw[KX _ _ lk]at O;cases O;cases k2
 have eT:T4=T:=by
  have:=OQ lk rfl rfl r B;rw[show lW (K w.params)=[(T,x)]from L]at this;exact C9 Prod.fst (List.mem_singleton.mp this)
 subst eT
 have E:c5=c2:=by
  have:=e5.symm.trans e2;cases this;rfl
 subst E;obtain⟨ob,ws,_,_,_,_,_,_,_,h1,_,h3,h4,_⟩:=C _ KX;obtain⟨⟨o6,v6,R,y2,S,U⟩,y5⟩:=id P;rw[h1]at R;cases R;rw[h3]at S;cases S;rw[h4]at U;cases U;exact UQ KX G.T.g G.T.b G.T.builtins G.T.nolimit (let⟨mm,I,_⟩:=(G.T.seer V).mods;⟨mm,I⟩) G.T.bmain hg P nT t j (O7 i (by decide)) X (fun base _ _=>hf base) hb fun H hO hS=>aCY hF i hS L hO _
def GX(K:Fg)(q:Str):Bool:=match lW K with
 |[(T,a)]=>a==q&&(K.lookup T).isNone
 |_=>false
def SM(h:GX K q=true):∃T,pN K T q/\K.lookup T=Y:=by
 unfold GX at h;split at h
 .rename_i T a e;rw[B8,Z4,Option.isNone_iff_eq_none]at h;exact⟨T,by rw[<- h.1];exact e,h.2⟩
 .cases h
def aAd{X:Cx}{sc0 scope:Scope}(a:X.env.scope=sc0)(h:(scope.names.all fun y=>y.2 != .free || (sc0.names.lookup y.1==Z .cell || sc0.names.lookup y.1==some .free))=true):∀y∈scope.names,y.2=.free->X.env.kindOf y.1=some .cell\/X.env.kindOf y.1=some .free:=fun y b c=>by
 show X.env.scope.names.lookup y.1=_\/X.env.scope.names.lookup y.1=_;rw[a];have:=List.all_eq_true.mp h y b;rw[Bool.or_eq_true,Bool.or_eq_true,bne_iff_ne,Z4,Z4]at this;rcases this with z|z
 .exact absurd c z
 .exact z
def FC(K:Fg):Tf->Hp->VK->Prop:=fun xs H Q=>∃(p:Ud)(ns:T9),xs=[.ref p]/\SqT K H p (ns.map .int)/\ns.length<64/\∀l,H l=Y->Q (.ref l) (upd H l (.lst ((dW ns).map .int)))
def BM{h:Heap}{vs:T7}:(∀b o,h.get? b=Z o->(sortedHeap (h.push (seqObj "list" vs.toArray 0)) h.objs.size vs out).get? b=Z o)/\∃c,(sortedHeap (h.push (seqObj "list" vs.toArray 0)) h.objs.size vs out).get? h.objs.size=Z (seqObj "list" out c):=by
 have d:(h.push (seqObj "list" vs.toArray 0)).get? h.objs.size=Z (seqObj "list" vs.toArray 0):=C6 _ rfl;constructor
 .intro b o e;have a:b≠h.objs.size:=C8 (B7 e);unfold sortedHeap;rw[U5 _ _ _ _ a];refine A3 _ (A3 _ ?_);rw[U5 _ _ _ _ a];exact A3 _ e
 .unfold sortedHeap;have f:=Z6 d (fun _=>#[]);have g:=A3 (seqObj "tuple" vs.toArray 0) f;have i:=A3 (seqObj "list" #[] 0) g;exact⟨_,Z6 i (fun _=>out)⟩
def JF:dM X (.builtin "sorted") (FC X.K):=by
 intro pins s C H xs us Q I r h;obtain⟨p,ns,rfl,k,l,q⟩:=h;obtain⟨u,rfl,t⟩:=vals1 r;cases t;obtain⟨a,g,⟨o,v,w,n,hd⟩,i⟩:=I.tuple k;have x:=g.length;rw[A0]at x i;refine Calls.call_function_entry kind_sorted plain_sorted entry_sorted (args_sorted1 _) ?_;unfold Builtin.«sorted»;refine A1 (m:=checkCount "sorted" 1 1 _) (B5 ?_);refine A1 (wpAny_collect_seq _ (.inr rfl) v w hd (fun h' y=>?_) (by simp;omega));have z:a.toArray.toList=a:=by simp
 rw[z];refine A1 (wpAny_newList ?_);have b:(h'.push (seqObj "list" a.toArray 0)).get? h'.objs.size=Z (seqObj "list" a.toArray 0):=C6 _ rfl;refine A1 (S5 (U7 slot_list_sort ⟨_,b,rfl⟩ entry_list_sort (list_sort_tree b (intsAre_of g) (by omega) fun out d hi pm A=>⟨_,rfl,?_⟩) (args_list_sort _)));have e:d=dW ns:=nU A (lB ns) (pm.trans (eL ns).symm);subst e;obtain⟨kp,c,B⟩:=BM (h:=h') (vs:=a) (out:=out);have f:((dW ns).map V.int).length<=sizeLine:=by rw[A0,pm.length_eq];exact i
 have j:=I.kept (t':=s.toks) y;refine B5 ⟨_,rfl,.ref h'.objs.size,upd H h'.objs.size (.lst ((dW ns).map .int)),j.laid (t':=s.toks) kp (B4 _) ⟨f,out.toList,c,tH hi,by simpa using B⟩,rfl,q _ (j.hok.fresh (B4 _))⟩
def aBJ{X:Cx}(h:X.K=K):dM X (.builtin "sorted") (FC K):=by subst h;exact JF
def jA:FN:=fun xs M=>match xs with
 |[.d (.list ds)]=>(cN ds).bind fun ns=>if ns.length<64 then Z (.d (.list ((dW ns).map .int)),M)else Y
 |[.d (.tuple ds)]=>(cN ds).bind fun ns=>if ns.length<64 then Z (.d (.list ((dW ns).map .int)),M)else Y
 |_=>Y
def TN:PN K (fun xs H Q=>MM K xs H Q\/FC K xs H Q) jA:=by
 intro xs M z M' h W H vs Q G r k;unfold jA at h;split at h
 .rename_i ds;obtain⟨ns,d,h⟩:=aM h;by_cases b:ns.length<64
  .rw[A4 b]at h;cases h;rcases r with _|⟨f,_|_⟩;obtain⟨p,us,rfl,g,c⟩:=(show ∃a us,_=V.ref a/\SqL K W.F a us/\aL K W.F ds us from f);rw[oG d]at c;have e:=iC c;subst e;refine .inl ⟨p,ns,rfl,G.fh.seq g,b,fun l i=>?_⟩;obtain⟨j,m⟩:=G.lay (o:=.lst ((dW ns).map .int)) i;exact k _ _ _ j m ⟨l,_,rfl,SqL.of bA,uC _⟩
  .rw[B2 b]at h;cases h
 .rename_i ds;obtain⟨ns,d,h⟩:=aM h;by_cases b:ns.length<64
  .rw[A4 b]at h;cases h;rcases r with _|⟨f,_|_⟩;obtain⟨p,us,rfl,g,c⟩:=(show ∃a us,_=V.ref a/\SqT K W.F a us/\aL K W.F ds us from f);rw[oG d]at c;have e:=iC c;subst e;refine .inr ⟨p,ns,rfl,G.fh.seqT g,b,fun l i=>?_⟩;obtain⟨j,m⟩:=G.lay (o:=.lst ((dW ns).map .int)) i;exact k _ _ _ j m ⟨l,_,rfl,SqL.of bA,uC _⟩
  .rw[B2 b]at h;cases h
 .cases h
def qY{ι:Type}{X:ι->Cx}(a:∀i,(X i).K=K):QN K X (.builtin "sorted") jA:=⟨_,fun i=>(aEU (a i)).or (aBJ (a i)),TN⟩
section
variable{prog:Uf}{w:World}{A:Ug}{R:Result->Uc->Prop}{s:Uc}
noncomputable abbrev kY(elt tg iter:Ue)(ifs:Ta)(tg2 iter2:Ue)(ifs2:Ta)(scope:Scope)(pos:Pos):Ue:=.ListComp elt [⟨tg,iter,ifs,0⟩,⟨tg2,iter2,ifs2,0⟩] scope pos
def IX(elt tg iter:Ue)(ifs:Ta)(d a:Ue)(b:Ta)(scope:Scope)(pos:Pos)(it acc:Ua)(env:Env):
 compTurn (kY elt tg iter ifs d a b scope pos) 1 it acc env=(do
  standAt a.pos
  match <- pyNext it with
  |none=>pure (.done .next)
  |some v=>
   letOwnedTupleGo d it v
   assign d env v
   let mut ok:=true
   for c in b do
    if ok then ok <- isTrue c env (eval c env)
   if ok then
    (do let _ <- call (.builtin "list.append") [acc,<- eval elt env])
   again (.compLoop (kY elt tg iter ifs d a b scope pos) 1 it acc env)):=by rfl
def IW(elt tg iter:Ue)(ifs:Ta)(d a:Ue)(b:Ta)(scope:Scope)(pos:Pos)(it acc:Ua)(env:Env):
 compTurn (kY elt tg iter ifs d a b scope pos) 0 it acc env=(do
  standAt iter.pos
  match <- pyNext it with
  |none=>pure (.done .next)
  |some v=>
   letOwnedTupleGo tg it v
   assign tg env v
   let mut ok:=true
   for c in ifs do
    if ok then ok <- isTrue c env (eval c env)
   if ok then do
    let x <- eval a env
    standAt a.pos
    let x <- foldedSetIterable a env x;let _ <- runOwn (.compStart (kY elt tg iter ifs d a b scope pos) 1 (<- holding [x] (pyIter x)) acc env) env
    again (.compLoop (kY elt tg iter ifs d a b scope pos) 0 it acc env)
   else again (.compLoop (kY elt tg iter ifs d a b scope pos) 0 it acc env)):=by rfl
def aAW{pos:Pos}{acc:Ua}(I:Nat->Uc->Prop)
 (e:∀n s,I n s->wpAny (model prog w) A (pyNext it) (fun r s1=>(r=Y/\R (.ok .next) s1)\/∃v,r=Z v /\
  wpAny (model prog w) A (letOwnedTupleGo d it v) (fun _ s2=>wpAny (model prog w) A (assign d env v) (fun _ j=>
   wpAny (model prog w) A (forIn b true fun c r=>if r=true then(do
    let ok <- isTrue c env (eval c env)
    pure (ForInStep.yield ok))else pure (ForInStep.yield r)) (fun ok i=>
     (ok=true/\wpAny (model prog w) A (eval elt env) (fun x k=>wpAny (model prog w) A (call (.builtin "list.append") [acc,x]) (fun _ l=>∃m,m<n/\I m l) (fun _ _=>False) k) (fun _ _=>False) i) \/
     (ok=false/\∃m,m<n/\I m i)) (fun _ _=>False) j) (fun _ _=>False) s2) (fun _ _=>False) s1) (fun _ _=>False) s)
 (n:Nat) (h:I n s):codeAny (model prog w) A (.compLoop (kY elt tg iter ifs d a b scope pos) 1 it acc env) R s:=by
 refine codeAny_loop rfl I (fun n s o=>?_) n h
 show wpAny _ A ((compTurn (kY elt tg iter ifs d a b scope pos) 1 it acc env).onRaise fun x=>do
  noteFrame x env
  theTreesLotGoes x) _ _ s
 refine wpAny_noted ?_;rw[IX];refine A1 (Y6 (A1 (F8 (e n s o) (fun r s1 g=>?_) fun _ _ f=>f.elim)));rcases g with⟨rfl,g⟩|⟨v,rfl,g⟩
 .exact B5 g
 .refine A1 (F8 g (fun _ s2 p=>?_) fun _ _ f=>f.elim);refine A1 (F8 p (fun _ j q=>?_) fun _ _ f=>f.elim);refine A1 (F8 q (fun ok i h4=>?_) fun _ _ f=>f.elim);rcases h4 with⟨rfl,h4⟩|⟨rfl,h4⟩
  .refine A1 (A1 (F8 h4 (fun x k t=>?_) fun _ _ f=>f.elim));exact A1 (F8 t (fun _ l u=>B5 (B5 ⟨rfl,u⟩)) fun _ _ f=>f.elim)
  .exact B5 ⟨rfl,h4⟩
def ZS{pos:Pos}(hs:∀x,foldedSetIterable a env x=pure x)(I:Nat->Uc->Prop)
 (e:∀n s,I n s->wpAny (model prog w) A (pyNext it) (fun r s1=>(r=Y/\R (.ok .next) s1)\/∃v,r=Z v /\
  wpAny (model prog w) A (letOwnedTupleGo tg it v) (fun _ s2=>wpAny (model prog w) A (assign tg env v) (fun _ l=>
   wpAny (model prog w) A (forIn ifs true fun c r=>if r=true then(do
    let ok <- isTrue c env (eval c env)
    pure (ForInStep.yield ok))else pure (ForInStep.yield r)) (fun ok j=>
     (ok=true/\wpAny (model prog w) A (eval a env) (fun x o=>wpAny (model prog w) A (pyIter x) (fun g p=>∀R:Result->Uc->Prop,(∀k,(∃m,m<n/\I m k)->R (.ok .next) k)->codeAny (model prog w) A (.compStart (kY elt tg iter ifs d a b scope pos) 1 g acc env) R p) (fun _ _=>False) o) (fun _ _=>False) j) \/
     (ok=false/\∃m,m<n/\I m j)) (fun _ _=>False) l) (fun _ _=>False) s2) (fun _ _=>False) s1) (fun _ _=>False) s)
 (n:Nat) (h:I n s):codeAny (model prog w) A (.compLoop (kY elt tg iter ifs d a b scope pos) 0 it acc env) R s:=by
 refine codeAny_loop rfl I (fun n s q=>?_) n h
 show wpAny _ A ((compTurn (kY elt tg iter ifs d a b scope pos) 0 it acc env).onRaise fun x=>do
  noteFrame x env
  theTreesLotGoes x) _ _ s
 refine wpAny_noted ?_;rw[IW];refine A1 (Y6 (A1 (F8 (e n s q) (fun r s1 i=>?_) fun _ _ f=>f.elim)));rcases i with⟨rfl,i⟩|⟨v,rfl,i⟩
 .exact B5 i
 .refine A1 (F8 i (fun _ s2 t=>?_) fun _ _ f=>f.elim);refine A1 (F8 t (fun _ l u=>?_) fun _ _ f=>f.elim);refine A1 (F8 u (fun ok j h4=>?_) fun _ _ f=>f.elim);rcases h4 with⟨rfl,h4⟩|⟨rfl,h4⟩
  .refine A1 (F8 h4 (fun x o y=>?_) fun _ _ f=>f.elim);refine A1 (Y6 (A1 (wpAny_of_eq (hs x) ?_)));refine A1 (S5 (F8 y (fun g p z=>?_) fun _ _ f=>f.elim));exact A1 (wpAny_runOwn (z _ fun k B=>B5 ⟨rfl,B⟩))
  .exact B5 ⟨rfl,h4⟩
def SH{pos:Pos}
 (f:codeAny (model prog w) A (.compLoop (kY elt tg iter ifs c a b scope pos) 1 it acc env) R s)
 (h:wpAny (model prog w) A (pyIter it) (fun d e=>codeAny (model prog w) A (.compLoop (kY elt tg iter ifs c a b scope pos) 1 d acc env) R e)
  (notedBy (model prog w) A env fun x e=>R (.error x) e) s):
 codeAny (model prog w) A (.compStart (kY elt tg iter ifs c a b scope pos) 1 it acc env) R s:=by
 refine codeAny_of_tree ?_;show wpAny _ _ ((compStart (kY elt tg iter ifs c a b scope pos) 1 it acc env).onRaise (fun x=>do noteFrame x env;standAt theWindowsPlace)) _ _ s;refine wpAny_notedAt ?_;unfold compStart;show wpAny _ _ (ask >>= _) _ _ s;refine A1 (wpAny_askSetting (wpAny_ite ?_));split
 .first
   |exact A1 (B5 (B5 (And.intro rfl f)))
   |exact B5 (And.intro rfl f)
 .first
   |exact A1 (wpAny_rule (A1 (Y6 (A1 (F8 h (fun d e h'=>B5 (And.intro rfl h')) fun _ _ x=>x)))))
   |(refine A1 (wpAny_rule ?_);show wpAny _ _ (standAt a.pos >>= _) _ _ s;exact A1 (Y6 (A1 (F8 h (fun d e h'=>B5 (And.intro rfl h')) fun _ _ x=>x))))
end
def tIn(wi:TI)(g:TG)(n:TT)(o:TE)(N:Tf->St->Hp->Prop)(e:Tf):St->Hp->Prop:=fun j H=>wi j H fun J p=>∃W:Nat->Nat->Tf->St->Hp->Prop,(∃m,W 0 m e j p)/\∀i m acc d H',W i m acc d H'->
 (J.stop i H'/\N acc d H') \/
 (J.go i H'/\acc.length<sizeLine/\∃h:Tf->St->Hp->Prop,(∀c a f,h c a f->∃k,k<m/\W (i+1) k c a f)/\∀x f,J.yld i H' x f->g x d f fun a q=>n a q fun b l=>(b=true/\o a l fun v r=>h (acc++[v]) a r)\/(b=false/\h acc a l))
def aCM(cap:T5)(wi:TI)(g:TG)(n:TT)(f:TI)(g2:TG)(h:TT)(o:TE):TE:=fun j H Q=>wi j H fun J q=>∃W:Nat->Nat->Tf->St->Hp->Prop,(∃m,W 0 m [] (yB cap j) q)/\∀i m acc d H',W i m acc d H'->
 (J.stop i H'/\∀p,H' p=Y->Q (.ref p) (upd H' p (.lst acc))) \/
 (J.go i H'/\∃N:Tf->St->Hp->Prop,(∀c a e,N c a e->∃k,k<m/\W (i+1) k c a e)/\∀x e,J.yld i H' x e->g x d e fun a r=>n a r fun b l=>(b=true/\tIn f g2 h o N acc a l)\/(b=false/\N acc a l))
noncomputable abbrev lob(its:T7)(nn:Nat):Obj:={ cls:=.type "list",data:=.seq its.toArray nn }
def YQ{a:Cx}{elt tg iter:Ue}{ifs:Ta}{G j:Ue}{y:Ta}{sc:Scope}{pos:Pos}{a0:TI}{g2:TG}{a6:TT}{te:TE}(hY:∃X N' scope C m Ha fp pn,a=cQ X N' scope C m Ha fp pn)(hc:a.calm=true)
 (hi:PI a G j a0) (hg:PG a G g2) (ah:vO a y a6) (he:PE a elt te) {pins:T2} {s:Uc} {B:St} {H:Hp} {D:Ud} {c:T7} {nn:Nat} {acc:Tf} {N:Tf->St->Hp->Prop}
 (I:Inv a pins B H s) (fD:pP a pins H D) (gD:s.heap.get? D=Z (lob c nn)) (U:bH acc c) (la:acc.length<=sizeLine) (h:tIn a0 g2 a6 te N acc B H):
 wpAny (model a.prog a.w) a.A (eval j a.env) (fun x s5=>wpAny (model a.prog a.w) a.A (pyIter x) (fun a7 s6=>∀R:Result->Uc->Prop,(∀s7,(∃f H' E its' ai,Inv a pins f H' s7/\H' D=Y/\s7.heap.get? D=Z (lob its' ai)/\bH E its'/\E.length<=sizeLine/\N E f H')->R (.ok .next) s7)->
  codeAny (model a.prog a.w) a.A (.compStart (kY elt tg iter ifs G j y sc pos) 1 a7 (.ref D) a.env) R s6) (fun _ _=>False) s5) (fun _ _=>False) s:=by
 obtain⟨X,N',scope,C,m,Ha,fp,pn,rfl⟩:=hY;obtain⟨d0,dl,df,dx,P,a8⟩:=fD
 have L:∀{c:T7}{nn:Nat}{B:St}{H:Hp}{s:Uc},Inv (cQ X N' scope C m Ha fp pn) pins B H s->H D=Y->s.heap.get? D=Z (lob c nn)->Inv (cQ X N' scope C m Ha fp pn) ([(D,lob c nn)]++pins) B H s:=fun I d g=>I.pins_of fun p hp=>by
  rcases List.mem_append.mp hp with hp|hp
  .rw[List.mem_singleton.mp hp];exact⟨g,d,dl,df,fun v z=>by cases z⟩
  .exact I.pin p (B3 _ hp)
 refine thn (hi ([(D,lob c nn)]++pins) s B H _ (L I d0 gD) h) fun v s5 h5=>thn h5 fun a7 s6 h6=>?_;obtain⟨it,t,tn,J,H6,e,I6,T,a9,f6,W,⟨m0,w0⟩,aa⟩:=h6;subst e;intro R hR
 have ab:∀{c:T7}{nn:Nat}{B:St}{H:Hp}{s:Uc},Inv (cQ X N' scope C m Ha fp pn) ([(D,lob c nn)]++pins) B H s->Inv (cQ X N' scope C m Ha fp pn) pins B H s/\H D=Y/\s.heap.get? D=Z (lob c nn):=fun{c nn B H s} I=>by
  have q:=I.pin (D,lob c nn) (B3 _ (D4 _ (List.mem_singleton.mpr rfl)));exact⟨I.pins_of fun p hp=>I.pin p (B3 _ (B3 _ hp)),q.2.1,q.1⟩
 have F:∀{Hx:Hp}{ob:Obj},(∀b∈t,Hx b=Y)->∀b∈t,pP (cQ X N' scope C m Ha fp pn) ([(D,ob)]++pins) Hx b:=fun{Hx ob} hn b k=>by
  obtain⟨_,a1,a2,a3,a4,a5⟩:=f6 b k;refine⟨hn b k,a1,a2,a3,a4,fun p hp=>?_⟩;rcases List.mem_append.mp hp with hp|hp
  .exact a5 p (D4 _ hp)
  .rcases List.mem_append.mp hp with hp|hp
   .rw[List.mem_singleton.mp hp];exact a5 (D,lob c nn) (B3 _ (D4 _ (List.mem_singleton.mpr rfl)))
   .exact a5 p (B3 _ (B3 _ hp))
 have M:codeAny (model X.prog X.w) X.A (.compLoop (kY elt tg iter ifs G j y sc pos) 1 (.ref it) (.ref D) (cQ X N' scope C m Ha fp pn).env) R s6:=by
  obtain⟨u1,u2,u3⟩:=ab I6
  refine aAW (fun n s'=>∃(i:Nat)(f:St)(H':Hp)(acc:Tf)(c:T7)(nn:Nat),Inv (cQ X N' scope C m Ha fp pn) pins f H' s'/\tn i s'.heap/\(∀b∈t,H' b=Y)/\H' D=Y /\
   s'.heap.get? D=Z (lob c nn)/\bH acc c/\acc.length<=sizeLine/\W i n acc f H') ?_ m0 ⟨0,B,H6,acc,c,nn,u1,a9,fun b k=>(f6 b k).1,u2,u3,U,la,w0⟩
  rintro n s7 ⟨i,f,H',acc,c,nn,I7,t7,ac,d7,g7,U,la,w7⟩;have I7p:=L I7 d7 g7;rcases aa i n acc f H' w7 with⟨stop,q⟩|⟨go,lt,N2,hN,step⟩
  .refine thn (T.done (cQ X N' scope C m Ha fp pn) rfl rfl rfl hc i _ s7 f H' _ I7p (F ac) t7 stop) fun r s8 ⟨hr,I8⟩=>.inl ⟨hr,?_⟩;obtain⟨v1,v2,v3⟩:=ab I8;exact hR s8 ⟨f,H',acc,c,nn,v1,v2,v3,U,la,q⟩
  .refine thn (T.item (cQ X N' scope C m Ha fp pn) rfl rfl rfl hc i _ s7 f H' _ I7p (F ac) t7 go) fun r s8 ⟨u,hr,h8⟩=>.inr ⟨u,hr,?_⟩;refine thn h8 fun _ s9 ⟨x,H9,I9,r9,y9,t9,aj⟩=>?_;have ak:=I9.pinned (F aj) (T.obj _ _ t9)
   have O:∀{Q:St}{Hx:Hp}{sx:Uc},Inv (cQ X N' scope C m Ha fp pn) (([(D,lob c nn)]++pins)++qZ t s9.heap) Q Hx sx->
    (∀b∈t,∀o,s9.heap.get? b=Z o->sx.heap.get? b=Z o)/\(∀b∈t,Hx b=Y)/\sx.heap.get? D=Z (lob c nn)/\Hx D=Y/\Inv (cQ X N' scope C m Ha fp pn) pins Q Hx sx:=fun{Q Hx sx} Ix=>by
    have q:=Ix.pin (D,lob c nn) (B3 _ (D4 _ (D4 _ (List.mem_singleton.mpr rfl))));refine⟨fun b k o e=>(Ix.pin (b,o) (B3 _ (B3 _ (eK k e)))).1,fun b k=>?_,q.1,q.2.1,Ix.pins_of fun p hp=>Ix.pin p (B3 _ (D4 _ (B3 _ hp)))⟩;obtain⟨o,e,_⟩:=T.obj _ _ t9 b k;exact(Ix.pin (b,o) (B3 _ (B3 _ (eK k e)))).2.1
   refine thn (hg _ s9 f H9 x u _ ak r9 (step x H9 y9)) fun _ am ⟨l,ao,ap,aq⟩=>?_;refine thn (ah _ am l ao _ ap aq) fun b ar ⟨ae,af,S⟩=>?_;rcases S with⟨rfl,S⟩|⟨rfl,au⟩
   .refine .inl ⟨rfl,thn (he _ ar l ae _ af S) fun uv ag ⟨v,av,aw,rv,ax⟩=>?_⟩;obtain⟨m',hm,ay⟩:=hN _ _ _ ax;obtain⟨b1,b2,b3,b4,b5⟩:=O aw;refine wpAny_list_append_plain ⟨nn,b3⟩ (fun h' hp az=>?_) (by rw[C5,<- U.length];exact la);obtain⟨n2,e2⟩:=hp;have up:∀b o,b≠D->ag.heap.get? b=Z o->h'.get? b=Z o:=fun b o k e=>az.extBut b o k e;refine⟨m',hm,i+1,l,av,acc++[v],c++[uv],n2,b5.turned (t':=ag.toks) up b4 dl dx P a8,T.keep _ _ _ t9 fun b k o e=>up b o (U3 ((f6 b k).2.2.2.2.2 (D,_) (B3 _ (D4 _ (List.mem_singleton.mpr rfl))))) (b1 b k o e),b2,b4,?_,U.append (.cons rv .nil),?_,ay⟩
    .rw[e2];simp
    .rw[A6,E7];exact lt
   .obtain⟨m',hm,b0⟩:=hN _ _ _ au;obtain⟨b1,b2,b3,b4,b5⟩:=O af;exact .inr ⟨rfl,m',hm,i+1,l,ae,acc,c,nn,b5,T.keep _ _ _ t9 b1,b2,b4,b3,U,la,b0⟩
 exact SH M (T.self _ 0 _ _ _ a9 M)
section
variable{X:Cx}{N':Te}{cap:T5}{scope:Scope}
def OR{elt tg iter:Ue}{ifs:Ta}{l d:Ue}{f:Ta}{pos:Pos}{wi:TI}{g:TG}{tc:TT}{a7:TI}{g2:TG}{a8:TT}{te:TE}(hc:X.calm=true)(S:nJ X N' cap scope)(hi:PI X tg iter wi)
 (hg:∀C s H fp pn,PG (cQ X N' scope C s H fp pn) tg g) (aj:∀C s H fp pn,vO (cQ X N' scope C s H fp pn) ifs tc) (ak:∀C s H fp pn,PI (cQ X N' scope C s H fp pn) l d a7) (am:∀C s H fp pn,PG (cQ X N' scope C s H fp pn) l g2) (a9:∀C s H fp pn,vO (cQ X N' scope C s H fp pn) f a8) (he:∀C s H fp pn,PE (cQ X N' scope C s H fp pn) elt te)
 (hs:∀x,foldedSetIterable iter X.env x=pure x) (ao:∀(env:Env) x,foldedSetIterable d env x=pure x) {pins:T2} {s:Uc} {σ:St} {H:Hp} {Q:VK} (I:Inv X pins σ H s) (h:aCM cap wi g tc a7 g2 a8 te σ H Q)
 {use:Tz (Ua->Sem Unit)} {QQ:T1}
 (aa:∀(D C:Ud)(H':Hp)(acc:Tf)(U:Uc),D≠C->(∃m,U.heap.Ns C m)->(∀h',Heap.SameBut C U.heap h'->Inv X pins σ (upd H' D (.lst acc)) { U with heap:=h' })->pP X pins (upd H' D (.lst acc)) C->Q (.ref D) (upd H' D (.lst acc))->compPost (model X.prog X.w) X.A X.xe use QQ (.ref D) C (.ok .next) U):
 wpAny (model X.prog X.w) X.A (comprehension (kY elt tg iter ifs l d f scope pos) scope X.env (firstIterPos [⟨tg,iter,ifs,0⟩,⟨l,d,f,0⟩] pos) (newList []) false (firstIter [⟨tg,iter,ifs,0⟩,⟨l,d,f,0⟩] X.env) use) QQ X.xe s:=by
 refine wpAny_comprehension_free (e:=kY elt tg iter ifs l d f scope pos) (g:=⟨tg,iter,ifs,0⟩) (gs:=[⟨l,d,f,0⟩]) rfl hs (tP (S.cells I.ok)) S.kind S.names ?_;refine thn (hi pins s σ H _ I h) fun v s1 h1=>thn h1 fun ap s2 h2=>?_;obtain⟨it,fp,tn,J,E,e,M,T,a3,O,W,⟨m0,w0⟩,ab⟩:=h2;subst e
 have t:∀b∈fp,b<s2.heap.objs.size:=fun b a=>by
  obtain⟨o,e,_⟩:=T.obj _ _ a3 b a;exact B7 e
 refine J7 (wpAny_newFunctionEnv S.nocell (fun y hy=>by simp at hy) (fun F a4 a5=>?_) S.kind);dsimp only at a4 a5 ⊢;generalize hP:s2.heap.push { cls:=.type "list",dict:=Y,data:=.seq ([]:T7).toArray }=P2 at a4 a5 ⊢;have ac:P2.objs.size=s2.heap.objs.size+1:=by rw[<- hP,A0k]
 have B:s2.heap.objs.size≠P2.objs.size:=by rw[ac];exact C8 (A0y _)
 have hC:s2.heap.objs.size<=P2.objs.size:=by rw[ac];exact A1d _
 have G:∀b o,P2.get? b=Z o->b≠P2.objs.size->F.get? b=Z o:=fun b o e a=>a5.extBut b o a (A3 _ e);have a6:∀b o,s2.heap.get? b=Z o->F.get? b=Z o:=fun b o e=>G b o (by rw[<- hP];exact A3 _ e) (C8 (C4 (B7 e) hC));have aq:F.get? s2.heap.objs.size=Z { cls:=.type "list",data:=.seq #[] 0 }:=G _ _ (by rw[<- hP];exact C6 _ rfl) B
 have I4:Inv (cQ X N' scope P2.objs.size s2 E fp pins) [] (yB cap σ) E { s2 with heap:=F,toks:=s2.toks+([]:Tv).length }:=
  JL S M O t hC (by simpa using a4) a6
 have a0:∀s4:Uc,s4={ s2 with heap:=F,toks:=s2.toks+([]:Tv).length }->
  codeAny (model X.prog X.w) X.A (.compLoop (kY elt tg iter ifs l d f scope pos) 0 (.ref it) (.ref s2.heap.objs.size) (compEnvC scope (dJ X.env scope.names []) P2.objs.size X.env)) (compPost (model X.prog X.w) X.A X.xe use QQ (.ref s2.heap.objs.size) P2.objs.size) s4:=by
  rintro s4 rfl
  have a1:s2.heap.objs.size∉frs X.stack:=fun a=>by
   obtain⟨_,o,ho,_⟩:=M.stack.mem a;exact absurd (B7 ho) (L8 _)
  have cne:∀x c,(dJ X.env scope.names []).lookup x=Z c->c<s2.heap.objs.size:=fun x c e=>by
   obtain⟨v,q⟩:=M.cell x c (S.sub M.ok x c e);exact q.lt
  have L:∀{Hx:Hp}{ob:Obj},(∀b∈fp,Hx b=Y)->∀b∈fp,pP (cQ X N' scope P2.objs.size s2 E fp pins) [(s2.heap.objs.size,ob)] Hx b:=fun{Hx ob} hn b a=>by
   refine⟨hn b a,C8 (C4 (t b a) hC),M.stkAll (O b a).2.1 (O b a).2.2.1,.inl a,fun x c e=>(O b a).2.2.2.2.1 x c (S.sub M.ok x c e),fun p hp=>?_⟩;rcases List.mem_append.mp hp with z|z
   .exact(O b a).2.2.2.2.2 p z
   .rw[List.mem_singleton.mp z];exact A0t (t b a)
  refine ZS (ao _) (fun n U=>∃(i:Nat)(j:St)(H':Hp)(acc:Tf)(k:T7)(nn:Nat),Inv (cQ X N' scope P2.objs.size s2 E fp pins) [] j H' U/\tn i U.heap/\(∀b∈fp,H' b=Y)/\H' s2.heap.objs.size=Y /\
   U.heap.get? s2.heap.objs.size=Z { cls:=.type "list",data:=.seq k.toArray nn }/\bH acc k/\acc.length<=sizeLine/\W i n acc j H') ?_ m0
   ⟨0,yB cap σ,E,[],[],0,I4,T.keep _ _ _ a3 fun b _ o e=>a6 b o e,fun b a=>(O b a).1,M.hok.fresh (B4 _),aq,.nil,E9 _,w0⟩
  rintro n s5 ⟨i,j,H',acc,k,nn,I5,t5,ae,d5,g5,va,la,w5⟩
  have I5p:Inv (cQ X N' scope P2.objs.size s2 E fp pins) [(s2.heap.objs.size,{ cls:=.type "list",data:=.seq k.toArray nn })] j H' s5:=I5.pins_of fun p hp=>by
   rw[List.mem_singleton.mp hp];exact⟨g5,d5,B,a1,fun v z=>by cases z⟩
  rcases ab i n acc j H' w5 with⟨stop,q⟩|⟨go,N,hN,step⟩
  .refine thn (T.done (cQ X N' scope P2.objs.size s2 E fp pins) rfl rfl rfl hc i _ s5 j H' _ I5p (L ae) t5 stop) fun r s6 ⟨hr,I6⟩=>.inl ⟨hr,?_⟩;have d6:=(I6.pin (s2.heap.objs.size,{ cls:=.type "list",data:=.seq k.toArray nn }) (by simp)).1;have nC:H' P2.objs.size=Y:=I6.free;refine aa _ _ H' acc s6 B (let⟨m,hn,_⟩:=I6.loc;⟨m,hn⟩) (fun h' ar=>?_) (M.fpOk hC (by rw[aU B.symm];exact nC)) (q _ d5);have up:∀b o,b≠P2.objs.size->s6.heap.get? b=Z o->h'.get? b=Z o:=fun b o a e=>ar.extBut b o a e;have P:∀b o,s2.heap.get? b=Z o->b≠P2.objs.size/\b≠s2.heap.objs.size:=fun b o e=>⟨C8 (C4 (B7 e) hC),C8 (B7 e)⟩;have u6:Un (frs X.stack) fp E H' s2.heap s6.heap:=I6.base
   have u7:Un (frs X.stack) fp E (upd H' s2.heap.objs.size (.lst acc)) s2.heap h':=by
    refine⟨fun b o e n a hx=>up b o (P b o e).1 (u6.keep b o e n a hx),fun b o e n a hx=>?_,fun b o e n hx=>?_,fun b o e hx=>?_,fun b xs e=>?_,fun b o u e=>?_,fun b ps e=>?_⟩
    .obtain⟨sl,q⟩:=u6.slot b o e n a hx;exact⟨sl,up b _ (P b o e).1 q⟩
    .rw[aU (P b o e).2];exact u6.free b o e n hx
    .obtain⟨o',q⟩:=u6.there b o e hx;exact⟨o',up b o' (P b o e).1 q⟩
    .have z:=u6.tups b xs e;rw[aU (aW z d5)];exact z
    .have z:=u6.frzs b o u e;rw[aU (aW z d5)];exact z
    .obtain⟨more,z⟩:=u6.tbls b ps e;exact⟨more,by rw[aU (aW z d5)];exact z⟩
   have au:HOk X.prog X.w (upd H' s2.heap.objs.size (.lst acc)) h':=fun b u e=>by
    by_cases a:b=s2.heap.objs.size
    .subst a;rw[bA]at e;cases e;exact⟨la,k,nn,va,up _ _ B d6⟩
    .rw[aU a]at e;refine(I6.hok b u e).stay (fun c v av z=>up c v ?_ z) (fun c z=>by rw[aU (aW z d5)];exact z) fun c xs z=>by rw[aU (aW z d5)];exact z
     rcases av with rfl|z
     .exact aW e nC
     .exact aW z nC
   have aw:s6.os=s2.os:=I6.os;have ax:=I6.bare;obtain⟨hh,gg,dd,tt,oo⟩:=s6;subst aw;have z7:=M.call (s:=s2) (h':=h') (g':=gg) (d':=dd) (t':=tt) (ch:=fp) u7 au ax fun b a=>⟨(O b a).2.2.2.1,(O b a).2.1,(O b a).2.2.2.2.1,(O b a).2.2.2.2.2⟩;exact z7
  .refine thn (T.item (cQ X N' scope P2.objs.size s2 E fp pins) rfl rfl rfl hc i _ s5 j H' _ I5p (L ae) t5 go) fun r s6 ⟨u,hr,h6⟩=>.inr ⟨u,hr,?_⟩;refine thn h6 fun _ s7 ⟨x,H7,I7,r7,y7,t7,ay⟩=>?_;have az:=I7.pinned (L ay) (T.obj _ _ t7)
   have a2:∀{af:St}{Hx:Hp}{sx:Uc},Inv (cQ X N' scope P2.objs.size s2 E fp pins) ([(s2.heap.objs.size,{ cls:=.type "list",data:=.seq k.toArray nn })]++qZ fp s7.heap) af Hx sx->
    (∀b∈fp,∀o,s7.heap.get? b=Z o->sx.heap.get? b=Z o)/\(∀b∈fp,Hx b=Y)/\sx.heap.get? s2.heap.objs.size=Z { cls:=.type "list",data:=.seq k.toArray nn }/\Hx s2.heap.objs.size=Y:=fun{af Hx sx} Ix=>by
    refine⟨fun b a o e=>(Ix.pin (b,o) (B3 _ (B3 _ (eK a e)))).1,fun b a=>?_,?_,?_⟩
    .obtain⟨o,e,_⟩:=T.obj _ _ t7 b a;exact(Ix.pin (b,o) (B3 _ (B3 _ (eK a e)))).2.1
    .exact(Ix.pin (s2.heap.objs.size,_) (B3 _ (D4 _ (List.mem_singleton.mpr rfl)))).1
    .exact(Ix.pin (s2.heap.objs.size,{ cls:=.type "list",data:=.seq k.toArray nn }) (B3 _ (D4 _ (List.mem_singleton.mpr rfl)))).2.1
   refine thn (hg _ _ _ _ _ _ s7 j H7 x u _ az r7 (step x H7 y7)) fun _ s8 ⟨ag,H8,I8,q8⟩=>?_;refine thn (aj _ _ _ _ _ _ s8 ag H8 _ I8 q8) fun b s9 ⟨H9,I9,q9⟩=>?_;rcases q9 with⟨rfl,q9⟩|⟨rfl,n9⟩
   .obtain⟨b1,b2,b3,b4⟩:=a2 I9
    have fD:pP (cQ X N' scope P2.objs.size s2 E fp pins) (qZ fp s7.heap) H9 s2.heap.objs.size:=by
     refine⟨b4,B,a1,.inr (B4 _),fun x c e=>C8 (cne x c e),fun p hp=>?_⟩;rcases List.mem_append.mp hp with hp|hp
     .exact C8 (B7 (M.pin p hp).1)
     .exact C8 (t p.1 (DB hp).1)
    refine .inl ⟨rfl,thn (YQ (elt:=elt) (tg:=tg) (iter:=iter) (ifs:=ifs) (sc:=scope) (pos:=pos) ⟨_,_,_,_,_,_,_,_,rfl⟩ hc (ak _ _ _ _ _) (am _ _ _ _ _) (a9 _ _ _ _ _) (he _ _ _ _ _) (I9.pins_of fun p hp=>I9.pin p (B3 _ (B3 _ hp))) fD b3 va la q9) fun x b9 b0=>thn b0 fun ap ba b5 R hR=>b5 R fun b6 ⟨j,H',ah,ai,b7,J1,J2,J3,J4,J5,J6⟩=>hR b6 ?_⟩;obtain⟨m',hm,b8⟩:=hN _ _ _ J6;refine⟨m',hm,i+1,j,H',ah,ai,b7,J1.pins_of fun p hp=>absurd hp (by simp),T.keep _ _ _ t7 fun b a o e=>(J1.pin (b,o) (B3 _ (eK a e))).1,fun b a=>?_,J2,J3,J4,J5,b8⟩;obtain⟨o,e,_⟩:=T.obj _ _ t7 b a;exact(J1.pin (b,o) (B3 _ (eK a e))).2.1
   .obtain⟨m',hm,w9⟩:=hN _ _ _ n9;obtain⟨b1,b2,b3,b4⟩:=a2 I9;exact .inr ⟨rfl,m',hm,i+1,ag,H9,acc,k,nn,I9.pins_of fun p hp=>absurd hp (by simp),T.keep _ _ _ t7 b1,b2,b4,b3,va,la,w9⟩
 exact codeAny_compStart_list (a0 _ rfl) (T.self _ 0 _ _ _ (T.keep _ _ _ a3 fun b _ o e=>a6 b o e) (a0 _ rfl))
def aGm{pos:Pos}(q:X.calm=true)(S:nJ X N' cap scope)(hi:PI X tg iter wi)
 (r:∀C s H fp pn,PG (cQ X N' scope C s H fp pn) tg g) (i:∀C s H fp pn,vO (cQ X N' scope C s H fp pn) ifs o) (j:∀C s H fp pn,PI (cQ X N' scope C s H fp pn) c a d) (k:∀C s H fp pn,PG (cQ X N' scope C s H fp pn) c g2) (f:∀C s H fp pn,vO (cQ X N' scope C s H fp pn) b e) (t:∀C s H fp pn,PE (cQ X N' scope C s H fp pn) elt p)
 (hs:∀x,foldedSetIterable iter X.env x=pure x:=by intro _;rfl) (l:∀(env:Env) x,foldedSetIterable a env x=pure x:=by intro _ _;rfl):PE X (kY elt tg iter ifs c a b scope pos) (aCM cap wi g o d g2 e p):=by
 intro pins s y H Q I h;rw[eval_ListComp];refine OR (use:=Y) (Q:=Q) q S hi r i j k f t hs l I h fun D C H' acc z u ⟨m,hn⟩ v _ w=>⟨m,hn,fun h' n=>?_⟩;exact⟨.ref D,_,v h' n,rfl,w⟩
def UO{i:Nat}{x:Str}{elt tg iter:Ue}{ifs:Ta}{j c:Ue}{d:Ta}{pos f k:Pos}{wi:TI}{g:TG}{U:TT}{p:TI}{g2:TG}{q:TT}{V:TE}(hN:X.N.Nodup)(y:X.N[i]?=Z x)(hc:X.calm=true)(S:nJ X N' cap scope)(hi:PI X tg iter wi)
 (hg:∀C s H fp pn,PG (cQ X N' scope C s H fp pn) tg g) (B:∀C s H fp pn,vO (cQ X N' scope C s H fp pn) ifs U) (F:∀C s H fp pn,PI (cQ X N' scope C s H fp pn) j c p) (G:∀C s H fp pn,PG (cQ X N' scope C s H fp pn) j g2) (r:∀C s H fp pn,vO (cQ X N' scope C s H fp pn) d q) (he:∀C s H fp pn,PE (cQ X N' scope C s H fp pn) elt V)
 (J:swapsWith (kY elt tg iter ifs j c d scope pos) (Z (.Name x f)) k.line X.env=pure true:=by rfl) (W:X.env.scope.names.lookup x=Z .local:=by rfl)
 (hs:∀x,foldedSetIterable iter X.env x=pure x:=by intro _;rfl) (l:∀(env:Env) x,foldedSetIterable c env x=pure x:=by intro _ _;rfl):PS X (.Assign [.Name x f] (kY elt tg iter ifs j c d scope pos) k) (WQ (aCM cap wi g U p g2 q V) (zC i)):=by
 intro pins s L H D I h;rw[exec_Assign_Name_used _ _ _ _ J];refine A1 (Y6 (A1 ?_));show wpAny _ _ (comprehension (kY elt tg iter ifs j c d scope pos) scope X.env _ (newList []) false (firstIter [⟨tg,iter,ifs,0⟩,⟨j,c,d,0⟩] X.env) (Z (assign (.Name x f) X.env)) >>= fun _=>pure ()) _ _ s;refine A1 (thn (OR (use:=Z (assign (.Name x f) X.env)) (QQ:=fun _ n=>∃t H',Inv X pins t H' n/\D.nx t H') (Q:=fun v H1=>zC i v L H1 D.nx) hc S hi hg B F G r he hs l I h fun E C H' acc n a0 ⟨m,hn⟩ hI fC hq=>?_) fun _ n hz=>B5 (B5 hz));have O:Inv X pins L (upd H' E (.lst acc)) n:=hI n.heap (Heap.SameBut.refl ..);have O:Inv X pins L (upd H' E (.lst acc)) n:=O;refine wpAny_assign_Name (wJ (M:=model X.prog X.w) (A:=X.A) (E:=X.xe) O hN y (.inl W) (v:=.ref E) (u:=.ref E) rfl (fun s2 I2 P=>?_) (.inr W));obtain⟨a,l,ha⟩:=P
 have R:C≠a:=by
  rcases ha with z|z
  .rw[z];exact fC.2.1
  .exact fun w=>fC.2.2.2.2.1 x a z w.symm
 refine⟨m,hn.extBut l.extBut R,fun h' T=>?_⟩;exact⟨_,_,I2.turned (t':=s2.toks) (fun b o hb e=>T.extBut b o hb e) fC.1 fC.2.1 fC.2.2.2.1 fC.2.2.2.2.1 fC.2.2.2.2.2,hq⟩
end
def lcG(g:GF)(c:TF)(e:EF):T8->Ga->Sto->Tz ((T8×Ga)×Sto)
 |[],d,M=>Z (([],d),M)
 |x::xs,d,M=>(g x d M).bind fun a=>(c a.1 a.2).bind fun b=>if b.1=true then(e a.1 b.2).bind fun r=>(lcG g c e xs a.1 r.2).bind fun q=>Z ((r.1::q.1.1,q.1.2),q.2)else lcG g c e xs a.1 b.2
def JS(g:GF)(c:TF)(fa2:AF)(g2:GF)(d:TF)(e:EF):T8->Ga->Sto->Tz (T8×Sto)
 |[],f,M=>Z ([],M)
 |x::xs,f,M=>(g x f M).bind fun a=>(c a.1 a.2).bind fun b=>if b.1=true then(fa2 a.1 b.2).bind fun r=>(lcG g2 d e r.1 a.1 r.2).bind fun q=>(JS g c fa2 g2 d e xs q.1.2 q.2).bind fun z=>Z (q.1.1++z.1,z.2)else JS g c fa2 g2 d e xs a.1 b.2
def LS(cap:T5)(f:AF)(g:GF)(c:TF)(b:AF)(g2:GF)(h:TF)(e:EF):EF:=fun a M=>(f a M).bind fun r=>(JS g c b g2 h e r.1 (jS cap a) r.2).bind fun q=>(iU q.1).bind fun ds=>if ds.length<sizeLine then Z (.d (.list ds),q.2)else Y
section
variable{K:Fg}{tg:TG}{tt:TT}{hg:GF}{ft:TF}{fa:AF}{tg2:TG}{tt2:TT}{hg2:GF}{ft2:TF}{fa2:AF}{te:TE}{fe:EF}
def aGq{wi:TI}(i:SI K wi fa)(a:SG K tg hg)(c:STt K tt ft)(b:SE K te fe){γ n:Ga}{M M1 M':Sto}{ys zs:T8}(h1:fa γ M=Z (ys,M1))(hh:lcG hg ft fe ys γ M1=Z ((zs,n),M'))
 {W:Wd} {H:Hp} {P:St} {N:Tf->St->Hp->Prop} {pre:T8} {acc:Tf} (G:Good K W M H) (R:dA K W γ P) (rp:bK K W pre acc) (hl:pre.length+zs.length<sizeLine)
 (k:∀t f W' H',W.Ext W'->Good K W' M' H'->dA K W' n f->bK K W' (pre++zs) t->N t f H'):tIn wi tg tt te N acc P H:=by
 refine i _ _ _ _ h1 W H P _ G R fun J W1 H1 Q G1 gv=>?_
 refine⟨fun j m acc f H'=>∃o M2 u d p,j<=ys.length/\m=ys.length-j/\W1.Ext u/\Good K u M2 H'/\dA K u o f/\bK K u d acc/\d++p=pre++zs/\lcG hg ft fe (ys.drop j) o M2=Z ((p,n),M'),
  ⟨_,γ,M1,W1,pre,zs,E9 _,rfl,.refl _,G1,R.up Q,bK.up rp Q,rfl,hh⟩,?_⟩
 rintro j m acc f H' ⟨o,M2,u,d,p,hj,rfl,S,G2,R2,q,B,g⟩;obtain⟨T,U⟩:=gv u M2 H' S G2;by_cases x:j<ys.length
 .obtain⟨go,yl⟩:=T j ys[j] (B1 x);rw[Y7 x]at g
  have la:acc.length<sizeLine:=by
   have l1:=C9 List.length B;rw[A6,A6]at l1;have l2:=Paired.len q;omega
  refine .inr ⟨go,la,fun w C F=>∃r I A h l,u.Ext A/\Good K A I F/\dA K A r C/\bK K A h w/\h++l=pre++zs/\lcG hg ft fe (ys.drop (j+1)) r I=Z ((l,n),M'),?_,fun y F hy=>?_⟩
  .rintro w C F ⟨r,I,A,h,l,e3,G3,R3,X,a0,h3⟩;exact⟨_,by omega,r,I,A,h,l,x,rfl,S.trans e3,G3,R3,X,a0,h3⟩
  .obtain⟨W8,e8,G8,ry⟩:=yl y F hy;obtain⟨⟨D,M4⟩,h4,g⟩:=aM (show(hg ys[j] o M2).bind _=_ from g);obtain⟨⟨b5,M5⟩,h5,g⟩:=aM g;refine a _ _ _ _ _ h4 W8 _ f y _ G8 (R2.up e8) ry fun E W4 H4 e4 G4 L=>?_;refine c _ _ _ _ h5 W4 H4 E _ G4 L fun W5 H5 O G5=>?_;have s:=(e8.trans e4).trans O;cases b5 with
   |true=>
    rw[A4 rfl]at g;obtain⟨⟨z,M6⟩,h6,g⟩:=aM g;obtain⟨⟨⟨a1,a2⟩,M7⟩,h7,g⟩:=aM g;cases g;refine .inl ⟨rfl,b _ _ _ _ h6 W5 H5 E _ G5 (L.up O) fun v W6 H6 e6 G6 r6=>?_⟩;exact⟨D,M6,W6,d++[z],a1,s.trans e6,G6,L.up (O.trans e6),Paired.app (bK.up q (s.trans e6)) (.cons r6 .nil),by rw[<- B,F0];rfl,h7⟩
   |false=>
    rw[B2 A7]at g;exact .inr ⟨rfl,D,M5,W5,d,p,s,G5,L.up O,bK.up q s,B,g⟩
 .have e:j=ys.length:=by omega
  subst e;rw[A0z]at g;cases g;rw[D8]at B;subst B;exact .inl ⟨U,k acc f u H' (Q.trans S) G2 R2 q⟩
def aAC{wi z:TI}{cap:T5}(i:SI K wi fa)(a:SG K tg hg)(c:STt K tt ft)(i2:SI K z fa2)(a2:SG K tg2 hg2)(c2:STt K tt2 ft2)(b:SE K te fe):SE K (aCM cap wi tg tt z tg2 tt2 te) (LS cap fa hg ft fa2 hg2 ft2 fe):=by
 intro γ M x M' h W H σ Q G R kk;obtain⟨⟨s,M1⟩,h1,h⟩:=aM h;obtain⟨⟨xs,M9⟩,h9,h⟩:=aM h;obtain⟨ds,hds,h⟩:=aM h;by_cases I:ds.length<sizeLine
 .rw[A4 I]at h;cases h;have a4:xs.length<sizeLine:=by rw[<- AN hds];exact I
  refine i _ _ _ _ h1 W H σ _ G R fun J W1 H1 e1 G1 gv=>?_
  refine⟨fun j m acc k H'=>∃l M2 u pre n,j<=s.length/\m=s.length-j/\W1.Ext u/\Good K u M2 H'/\dA K u l k/\bK K u pre acc/\pre++n=xs/\JS hg ft fa2 hg2 ft2 fe (s.drop j) l M2=Z (n,M9),
   ⟨_,jS cap γ,M1,W1,[],xs,E9 _,rfl,.refl _,G1,AQ (R.up e1) cap,.nil,rfl,h9⟩,?_⟩
  rintro j m acc k H' ⟨l,M2,u,pre,n,hj,rfl,L,G2,R2,rp,A,d⟩;obtain⟨N,O⟩:=gv u M2 H' L G2;by_cases v:j<s.length
  .obtain⟨go,yl⟩:=N j s[j] (B1 v);rw[Y7 v]at d;refine .inr ⟨go,fun t B D=>∃q E w f g,u.Ext w/\Good K w E D/\dA K w q B/\bK K w f t/\f++g=xs/\JS hg ft fa2 hg2 ft2 fe (s.drop (j+1)) q E=Z (g,M9),?_,fun y D hy=>?_⟩
   .rintro t B D ⟨q,E,w,f,g,F,P,R3,S,T,h3⟩;exact⟨_,by omega,q,E,w,f,g,v,rfl,L.trans F,P,R3,S,T,h3⟩
   .obtain⟨W8,e8,G8,ry⟩:=yl y D hy;obtain⟨⟨U,M4⟩,h4,d⟩:=aM (show(hg s[j] l M2).bind _=_ from d);obtain⟨⟨b5,M5⟩,h5,d⟩:=aM d;refine a _ _ _ _ _ h4 W8 _ k y _ G8 (R2.up e8) ry fun V W4 H4 e4 G4 X=>?_;refine c _ _ _ _ h5 W4 H4 V _ G4 X fun W5 H5 e5 G5=>?_;have r:=(e8.trans e4).trans e5;cases b5 with
    |true=>
     rw[A4 rfl]at d;obtain⟨⟨us,M6⟩,h6,d⟩:=aM d;obtain⟨⟨⟨zs,a0⟩,M7⟩,h7,d⟩:=aM d;obtain⟨⟨ws,M8⟩,h8,d⟩:=aM d;cases d
     have C:pre.length+zs.length<sizeLine:=by
      have:=C9 List.length A;simp only[List.length_append]at this;omega
     refine .inl ⟨rfl,aGq i2 a2 c2 b h6 h7 G5 (X.up e5) (bK.up rp r) C fun a3 k W' H' e' G' R' a1=>?_⟩;exact⟨a0,M7,W',pre++zs,ws,r.trans e',G',R',a1,by rw[<- A,F0],h8⟩
    |false=>
     rw[B2 A7]at d;exact .inr ⟨rfl,U,M5,W5,pre,n,r,G5,X.up e5,bK.up rp r,A,d⟩
  .have e:j=s.length:=by omega
   subst e;rw[A0z]at d;cases d;rw[D8]at A;subst A;refine .inl ⟨O,fun p hp=>?_⟩;obtain⟨F,P⟩:=G2.lay (o:=.lst acc) hp;exact kk _ _ _ ((e1.trans L).trans F) P ⟨p,acc,rfl,SqL.of bA,aL.same F.ff _ _ (dZ hds rp)⟩
 .rw[B2 I]at h;cases h
end
section
variable{K:Fg}{ι:Type}{X:ι->Cx}{N':Te}{cap:T5}{scope:Scope}{tg iter elt tg2 iter2:Ue}{ifs ifs2:Ta}{pos:Pos}{fa fa2:AF}{gf gf2:GF}{ft ft2:TF}{f:EF}
def aEY(j:∀i,(X i).calm=true)(S:∀i,nJ (X i) N' cap scope)(x:MI K X tg iter fa)(y:MG K (eM X N' scope) tg gf)(z:MF K (eM X N' scope) ifs ft)(k:MI K (eM X N' scope) tg2 iter2 fa2)(l:MG K (eM X N' scope) tg2 gf2)(m:MF K (eM X N' scope) ifs2 ft2)(w:ME K (eM X N' scope) elt f)
 (hs:∀(env:Env)(x:Ua),foldedSetIterable iter env x=pure x:=by intro _ _;rfl) (a:∀(env:Env)(x:Ua),foldedSetIterable iter2 env x=pure x:=by intro _ _;rfl):
 ME K X (.ListComp elt [⟨tg,iter,ifs,0⟩,⟨tg2,iter2,ifs2,0⟩] scope pos) (LS cap fa gf ft fa2 gf2 ft2 f):=by
 obtain⟨t,n,p⟩:=x.ex;obtain⟨u,q,r⟩:=y.ex;obtain⟨v,A,B⟩:=z.ex;obtain⟨F,b,c⟩:=k.ex;obtain⟨G,d,e⟩:=l.ex;obtain⟨I,g,h⟩:=m.ex;obtain⟨o,D,E⟩:=w.ex;exact⟨_,fun i=>aGm (j i) (S i) (n i) (fun C s H fp pn=>q (i,C,s,H,fp,pn)) (fun C s H fp pn=>A (i,C,s,H,fp,pn)) (fun C s H fp pn=>b (i,C,s,H,fp,pn)) (fun C s H fp pn=>d (i,C,s,H,fp,pn)) (fun C s H fp pn=>g (i,C,s,H,fp,pn)) (fun C s H fp pn=>D (i,C,s,H,fp,pn)) (hs _) a,aAC p r B c e h E⟩
def UF(i:Nat){c:Str}{a:Pos}(q:∀j,(X j).N.Nodup)(r:∀i,(X i).calm=true)(S:∀i,nJ (X i) N' cap scope)(x:MI K X tg iter fa)(y:MG K (eM X N' scope) tg gf)(z:MF K (eM X N' scope) ifs ft)(A:MI K (eM X N' scope) tg2 iter2 fa2)(B:MG K (eM X N' scope) tg2 gf2)(D:MF K (eM X N' scope) ifs2 ft2)(w:ME K (eM X N' scope) elt f)
 (d:∀j,(X j).N[i]?=Z c:=by intro _;rfl) (e:∀j,swapsWith (.ListComp elt [⟨tg,iter,ifs,0⟩,⟨tg2,iter2,ifs2,0⟩] scope pos) (Z (.Name c b)) a.line (X j).env=pure true:=by intro _;rfl) (E:∀j,(X j).env.scope.names.lookup c=Z .local:=by intro _;rfl)
 (hs:∀(env:Env)(x:Ua),foldedSetIterable iter env x=pure x:=by intro _ _;rfl) (g:∀(env:Env)(x:Ua),foldedSetIterable iter2 env x=pure x:=by intro _ _;rfl):
 MS K X (.Assign [.Name c b] (.ListComp elt [⟨tg,iter,ifs,0⟩,⟨tg2,iter2,ifs2,0⟩] scope pos) a) (bD (LS cap fa gf ft fa2 gf2 ft2 f) (hName i)):=by
 obtain⟨t,F,G⟩:=x.ex;obtain⟨u,I,J⟩:=y.ex;obtain⟨v,L,M⟩:=z.ex;obtain⟨Q,h,k⟩:=A.ex;obtain⟨R,l,m⟩:=B.ex;obtain⟨T,n,p⟩:=D.ex;obtain⟨o,O,P⟩:=w.ex;exact⟨_,fun i=>UO (q i) (d i) (r i) (S i) (F i) (fun C s H fp pn=>I (i,C,s,H,fp,pn)) (fun C s H fp pn=>L (i,C,s,H,fp,pn)) (fun C s H fp pn=>h (i,C,s,H,fp,pn)) (fun C s H fp pn=>l (i,C,s,H,fp,pn)) (fun C s H fp pn=>n (i,C,s,H,fp,pn)) (fun C s H fp pn=>O (i,C,s,H,fp,pn)) (e i) (E i) (hs _) g,AL (aAC G J M k m p P) uW⟩
end
end L2
section
noncomputable section
namespace Q44
open PySem PySem.Spec PyProof.Rows L2
noncomputable def top(i:Nat):Stmt:=PySem.Challenge.pw_cutstree_k44_chart_sides.main.body.getD i (.Pass ⟨0,0,0,0⟩)
noncomputable def gS:Tx (Str×Bool):=[("NoChart",true)]
noncomputable def jT:Tx (Str×Bool):=[("NoChart",true)]
def ar1{a:Type}{P:Tx a->Prop}{us:Tx a}(d:us.length=1)(h:∀b,P [b]):P us:=by
 rcases us with _|⟨b,_|⟨c,r⟩⟩<;>first|exact h _|cases d
def ar2{a:Type}{P:Tx a->Prop}{us:Tx a}(e:us.length=2)(h:∀b d,P [b,d]):P us:=by
 rcases us with _|⟨b,_|⟨d,_|⟨c,r⟩⟩⟩<;>first|exact h _ _|cases e
def ar3{a:Type}{P:Tx a->Prop}{us:Tx a}(f:us.length=3)(h:∀b d e,P [b,d,e]):P us:=by
 rcases us with _|⟨b,_|⟨d,_|⟨e,_|⟨c,r⟩⟩⟩⟩<;>first|exact h _ _ _|cases f
def ar4{a:Type}{P:Tx a->Prop}{us:Tx a}(g:us.length=4)(h:∀b d e f,P [b,d,e,f]):P us:=by
 rcases us with _|⟨b,_|⟨d,_|⟨e,_|⟨f,_|⟨c,r⟩⟩⟩⟩⟩<;>first|exact h _ _ _ _|cases g
set_option hygiene false
local macro_rules | `(tactic| sleep 990) => `(tactic| exact ⟨rfl, rfl, rfl, by decide +kernel, rfl, by decide +kernel, by decide +kernel⟩)
local macro_rules | `(tactic| sleep 988) => `(tactic| (intro _; exact T.hB.of _))
local macro_rules | `(tactic| sleep 989) => `(tactic| (intro _; dsimp only [eM, cQ]; decide +kernel))
local macro_rules | `(tactic| sleep 987) => `(tactic| (intro _; exact aBI rfl rfl (by kernel_rfl)))
local macro_rules | `(tactic| sleep 991) => `(tactic| (intro _ _ _ _ _ _ _ hl; apply ar1 hl; intros; rfl))
local macro_rules | `(tactic| sleep 992) => `(tactic| (intro _ _ _ _ _ _ _ hl; apply ar2 hl; intros; rfl))
local macro_rules | `(tactic| sleep 993) => `(tactic| (intro _ _ _ _ _ _ _ hl; apply ar3 hl; intros; rfl))
local macro_rules | `(tactic| sleep 994) => `(tactic| (intro _ _ _ _ _ _ _ hl; apply ar4 hl; intros; rfl))
set_option hygiene true
abbrev pA:Stmt:=top 25
noncomputable abbrev xP:Te:=["_law_script","_law_many","_law_row","_law_odd","_law_deck_here","_law_k","_law_at","_law_one"]
noncomputable abbrev qX:Te:=["_law_script","_law_many"]
def sc__law_deck:bC xP qX (aN pA):=by sleep 990
def sO:EF:=(hX (aA (fC (.int 48271)) (aA (fC (.int 69621)) (aA (fC (.int 39373)) (aA (fC (.int 40692)) aE)))))
def yU(γ:Ga)(M:Sto):sO γ M=Z (.d (.list [(.int 48271),(.int 69621),(.int 39373),(.int 40692)]),M):=rfl
def fN:SF:=(aZ (bD (fOp fT (aB 5) (aH bN (aA (aB 2) aE))) (hName 6))
 (aZ (bD (fOp fT (fOp ixF (aB 2) (aB 6)) (fC (.int 1000000))) (hName 7))
 (aZ (sIf (gB (fOp (eqX false) (aB 3) (fC (.int 0))))
  (aZ (bD (fOp fT (fOp eF (fOp eF (fOp ixF (aB 2) (aB 6)) (fOp IG (fOp IG (aB 5) (aB 5)) (fC (.int 16807)))) (fOp IG (fC (.int 3)) (aB 5))) (fC (.int 2147483629))) (hName 7))
 (aZ (bD (fOp fT (fOp eF (fOp IG (aB 7) (fOp ixF sO (fOp fT (aB 5) (fC (.int 4))))) (fC (.int 7))) (fC (.int 2147483647))) (hName 7))
 (bD (fOp fT (fOp IG (aB 7) (aB 7)) (fC (.int 2147483629))) (hName 7))))
  (bD (fOp lH (fOp ixF (aB 2) (aB 6)) (fC (.int 1000000))) (hSub (aB 2) (aB 6) EY)))
 (eZ (bL "list" bW (aB 4) (aA (aB 7) aE))))))
def mR:SF:=(aZ (bD (aH CL (aA (aB 0) aE)) (hName 2))
 (aZ (sIf (gB (fOp (eqY false) (aB 2) (hX aE)))
  (bD (dS (aA (fC (.int 4)) aE)) (hName 2))
  bR)
 (aZ (bD (fOp fT (fOp ixF (aB 2) (fC (.int 0))) (fC (.int 2))) (hName 3))
 (aZ (bD (fOp lH (fOp ixF (aB 2) (fC (.int 0))) (fC (.int 2))) (hSub (aB 2) (fC (.int 0)) EY))
 (aZ (bD (dS aE) (hName 4))
 (aZ (gV (fS (aA (aB 1) aE)) (hName 5) fN)
 (aZ (eZ (bL "list" fI (aB 4) aE))
 (cD (aB 4)))))))))
def mF:FN:=fnF 2 8 mR
abbrev qV:Stmt:=top 4
noncomputable abbrev yW:Te:=["thing"]
noncomputable abbrev tI:Te:=["thing"]
def JT:bC yW tI (aN qV):=by sleep 990
def AZ:SF:=(cD (eS (wM "int" (aB 0)) (GA (wM "bool" (aB 0)))))
def tJ:FN:=fnF 1 1 AZ
abbrev qP:Stmt:=top 7
noncomputable abbrev AI:Te:=["many","thing"]
noncomputable abbrev tS:Te:=["many","thing"]
def IK:bC AI tS (aN qP):=by sleep 990
def oQ:SF:=(cD (eS (aH tJ (aA (aB 1) aE)) (BB leI ltI (fC (.int 0)) (aB 1) (aB 0))))
def cR:FN:=fnF 2 2 oQ
abbrev wK:Stmt:=top 5
noncomputable abbrev IE:Te:=["thing"]
noncomputable abbrev yZ:Te:=["thing"]
def UK:bC IE yZ (aN wK):=by sleep 990
def IV:SF:=(cD (HV "list" "tuple" (aB 0)))
def fZ:FN:=fnF 1 1 IV
abbrev pF:Stmt:=top 6
noncomputable abbrev xM:Te:=["thing","length"]
noncomputable abbrev qU:Te:=["thing","length"]
def DZ:bC xM qU (aN pF):=by sleep 990
def xG:SF:=(cD (eS (aH fZ (aA (aB 0) aE)) (fOp (eqX false) (aH bN (aA (aB 0) aE)) (aB 1))))
def fW:FN:=fnF 2 2 xG
abbrev fH:Stmt:=top 21
noncomputable abbrev mI:Te:=["sides","within","at","side","around"]
noncomputable abbrev iL:Te:=["sides"]
def sc_straight_within:bC mI iL (aN fH):=by sleep 990
def gO:EF:=(EJ [Y] (aY (aB 0)) (hName 0) cF (dS aE))
def gQ:EF:=(fLc [Z 2,Z 3,Y,Y] (sH (aA (aB 0) aE)) (kE 2 (bI (hName 2) (bI (hName 3) gW))) (jR (gB (fOp (eqX true) (aB 2) (aB 0))) (gB (fOp (eqX false) (fOp zY (aB 1) (aB 3)) (aB 1)))) (aB 2))
def eN:SF:=(aZ (bD gQ (hName 4))
 (sIf (LB (aB 4))
  (eZ (bL "list" bW (fOp ixF (aB 1) (IA 0 (aA (aB 4) aE))) (aA (aB 2) aE)))
  bR))
def mJ:SF:=(aZ (bD gO (hName 1))
 (aZ (gV (sH (aA (aB 0) aE)) (kE 2 (bI (hName 2) (bI (hName 3) gW))) eN)
 (cD (aB 1))))
def iH:FN:=fnF 1 5 mJ
abbrev FU:Stmt:=top 17
noncomputable abbrev aAZ:Te:=["side"]
noncomputable abbrev MZ:Te:=["side"]
def aDj:bC aAZ MZ (aN FU):=by sleep 990
def BF:EF:=(fLc [Y] (aY (aB 0)) (hName 0) cF (fOp aFN (fC (.int 1)) (aB 0)))
def aAz:SF:=(cD (aH sumF (aA BF aE)))
def wG:FN:=fnF 1 1 aAz
abbrev tG:Stmt:=top 22
noncomputable abbrev DD:Te:=["links","within","k","order"]
noncomputable abbrev wL:Te:=["links","within","k","order"]
def NQ:bC DD wL (aN tG):=by sleep 990
def qS:EF:=(fLc [Z 0,Y] (aY (aB 3)) (hName 1) cF (aH cR (aA (aH bN (aA (aB 0) aE)) (aA (aB 1) aE))))
def mK:EF:=(fLc [Z 0,Y] (aY (aB 3)) (hName 1) cF (aH bN (aA (fOp ixF (aB 0) (aB 1)) aE)))
def DJ:SF:=(aZ (sIf (gOr (cB (gB (aH fZ (aA (aB 3) aE)))) (gOr (cB (gB (aH kT (aA qS aE)))) (gB (fOp (eqY true) (aH jA (aA (aB 3) aE)) (aB 1)))))
 (cD (fC (.bool false)))
 bR)
 (cD (eS (fOp geI (aH bN (aA (aB 3) aE)) (fC (.int 3))) (eS (fOp ltI (fOp ixF (aB 3) (fC (.int 0))) (fOp ixF (aB 3) (fUn rX (fC (.int 1))))) (fOp (eqX false) (aH sumF (aA mK aE)) (aH bN (aA (fOp ixF (aB 0) (aB 2)) aE)))))))
def rS:FN:=fnF 4 4 DJ
abbrev oW:Stmt:=top 8
noncomputable abbrev xD:Te:=["row"]
noncomputable abbrev qG:Te:=["row"]
def HJ:bC xD qG (aN oW):=by sleep 990
def nH:EF:=(fLc [Y,Y] (DL (aA (aB 0) (aA (fSl (aB 0) (bY (fC (.int 1))) bT) aE))) (kE 2 (bI (hName 0) (bI (hName 1) gW))) cF (fOp ltX (aB 0) (aB 1)))
def xC:SF:=(cD (aH kT (aA nH aE)))
def eB:FN:=fnF 1 1 xC
abbrev pB:Stmt:=top 20
noncomputable abbrev wV:Te:=["links","rings","within"]
noncomputable abbrev qJ:Te:=["links","rings"]
def sc_are_rings:bC wV qJ (aN pB):=by sleep 990
def mX:EF:=(fLc [Z 0,Y] (aY (aB 1)) (hName 1) cF (eS (aH fW (aA (aB 1) (aA (fC (.int 2)) aE))) (aH cR (aA (aH bN (aA (aB 0) aE)) (aA (fOp ixF (aB 1) (fC (.int 0))) aE)))))
def sL:EF:=(fLc [Y] (aY (aB 0)) (hName 0) cF (aH wG (aA (aB 0) aE)))
def jO:EF:=(fLc [Z 0,Z 2,Y,Y] (aY (aB 1)) (qM 2 (bI (hName 2) (bI (hName 3) gW))) cF (aH rS (aA (aB 0) (aA (fOp ixF (aB 1) (aB 2)) (aA (aB 2) (aA (aB 3) aE))))))
def jI:EF:=(fLc [Y] (aY (aB 1)) (hName 0) cF (fOp ixF (aB 0) (fC (.int 0))))
def xO:SF:=(aZ (sIf (gOr (cB (gB (aH fZ (aA (aB 1) aE)))) (cB (gB (aH kT (aA mX aE)))))
 (cD (fC (.bool false)))
 bR)
 (aZ (bD (aH iH (aA sL aE)) (hName 2))
 (cD (eS (aH eB (aA jI aE)) (aH kT (aA jO aE))))))
def jQ:FN:=fnF 2 3 xO
abbrev fX:Stmt:=top 9
noncomputable abbrev kN:Te:=["many","thing"]
noncomputable abbrev gR:Te:=["many","thing"]
def qL:bC kN gR (aN fX):=by sleep 990
def fQ:EF:=(fLc [Z 0,Y] (aY (aB 1)) (hName 1) cF (aH cR (aA (aB 0) (aA (aB 1) aE))))
def kO:SF:=(cD (eS (aH fZ (aA (aB 1) aE)) (eS (aH kT (aA fQ aE)) (aH eB (aA (aB 1) aE)))))
def eO:FN:=fnF 2 2 kO
abbrev tV:Stmt:=top 16
noncomputable abbrev CQ:Te:=["many","thing"]
noncomputable abbrev wU:Te:=["many","thing"]
def LV:bC CQ wU (aN tV):=by sleep 990
def CG:SF:=(cD (eS (aH eO (aA (aB 0) (aA (aB 1) aE))) (eS (fOp gtI (aH bN (aA (aB 1) aE)) (fC (.int 0))) (fOp gtI (fOp ixF (aB 1) (fC (.int 0))) (fC (.int 0))))))
def oH:FN:=fnF 2 2 CG
abbrev nB:Stmt:=top 19
noncomputable abbrev uG:Te:=["one","sides"]
noncomputable abbrev pO:Te:=["one","sides"]
def CC:bC uG pO (aN nB):=by sleep 990
def lM:EF:=(fLc [Z 0,Y] (aY (aB 1)) (hName 1) cF (fOp (inD true) (fOp zY (aB 0) (aB 1)) (cT (aA (fC (.int 0)) (aA (aB 0) (aA (aB 1) aE))))))
def uT:SF:=(cD (aH anyF (aA lM aE)))
def kU:FN:=fnF 2 2 uT
abbrev pR:Stmt:=top 18
noncomputable abbrev xH:Te:=["sides","at","one"]
noncomputable abbrev qT:Te:=["sides"]
def sc_any_cross:bC xH qT (aN pR):=by sleep 990
def jN:SF:=(sIf (gB (aH kU (aA (aB 2) (aA (fSl (aB 0) bT (bY (aB 1))) aE))))
 (cD (fC (.bool true)))
 bR)
def wW:SF:=(aZ (gV (sH (aA (aB 0) aE)) (kE 2 (bI (hName 1) (bI (hName 2) gW))) jN)
 (cD (fC (.bool false))))
def mG:FN:=fnF 1 3 wW
abbrev pM:Stmt:=top 15
noncomputable abbrev wY:Te:=["many","links"]
noncomputable abbrev qR:Te:=["many","links"]
def EI:bC wY qR (aN pM):=by sleep 990
def mW:EF:=(fLc [Z 0,Y] (aY (aB 1)) (hName 1) cF (aH oH (aA (aB 0) (aA (aB 1) aE))))
def sU:EF:=(fLc [Y] (aY (aB 1)) (hName 0) cF (aH wG (aA (aB 0) aE)))
def sJ:EF:=(fLc [Y] (aY (aB 1)) (hName 0) cF (aH cE (aA (aB 0) aE)))
def xI:SF:=(aZ (sIf (gOr (cB (gB (aH fZ (aA (aB 1) aE)))) (cB (gB (aH kT (aA mW aE)))))
 (cD (fC (.bool false)))
 bR)
 (cD (eS (aH eB (aA sJ aE)) (GA (aH mG (aA sU aE))))))
def jV:FN:=fnF 2 2 xI
abbrev rJ:Stmt:=top 13
noncomputable abbrev zP:Te:=["many","chart"]
noncomputable abbrev tW:Te:=["many","chart"]
def KD:bC zP tW (aN rJ):=by sleep 990
def AC:SF:=(cD (eS (aH fW (aA (aB 1) (aA (fC (.int 2)) aE))) (eS (aH jV (aA (aB 0) (aA (fOp ixF (aB 1) (fC (.int 0))) aE))) (aH jQ (aA (fOp ixF (aB 1) (fC (.int 0))) (aA (fOp ixF (aB 1) (fC (.int 1))) aE))))))
def lY:FN:=fnF 2 2 AC
abbrev vR:Stmt:=top 11
noncomputable abbrev JE:Te:=["heaps"]
noncomputable abbrev zK:Te:=["heaps"]
def UV:bC JE zK (aN vR):=by sleep 990
def tU:EF:=(LS [Y,Y] (aY (aB 0)) (hName 0) cF (aY (aB 0)) (hName 1) cF (aB 1))
def KL:SF:=(cD (aH cE (aA (aH jA (aA tU aE)) aE)))
def uP:FN:=fnF 1 1 KL
abbrev mV:Stmt:=top 23
noncomputable abbrev uD:Te:=["row","many","runs"]
noncomputable abbrev pG:Te:=["row"]
def sc_ring_sides:bC uD pG (aN mV):=by sleep 990
def lP:EF:=(LS [Z 1,Y,Y] (fS (aA (aB 1) aE)) (hName 1) cF (CT (aA (fOp eF (aB 1) (fC (.int 2))) (aA (fOp eF (aB 0) (fC (.int 1))) aE))) (hName 2) cF (cT (aA (aB 1) (aA (aB 2) aE))))
def rE:EF:=(EJ [Z 0,Z 1,Y,Y] (aY (aB 2)) (kE 2 (bI (hName 2) (bI (hName 3) gW))) (gB (fOp ltI (fOp wH (aB 3) (aB 2)) (aB 1))) (aH uP (aA (fSl (aB 0) (bY (aB 2)) (bY (aB 3))) aE)))
def oJ:SF:=(aZ (bD (aH bN (aA (aB 0) aE)) (hName 1))
 (aZ (bD lP (hName 2))
 (cD rE)))
def oK:FN:=fnF 1 3 oJ
abbrev mB:Stmt:=top 14
noncomputable abbrev sW:Te:=["many","chart","links","rings","sides","k","order"]
noncomputable abbrev nK:Te:=["many","chart"]
def sc_chart_sides:bC sW nK (aN mB):=by sleep 990
def hG:EF:=(EJ [Y] (aY (aB 2)) (hName 0) cF (aH cE (aA (aB 0) aE)))
def kI:EF:=(fLc [Z 2,Y] (aY (aB 6)) (hName 1) cF (fOp ixF (aB 0) (aB 1)))
def jX:SF:=(eZ (bL "list" uV (aB 4) (aA (aH oK (aA kI aE)) aE)))
def fP:SFX:=(CU (SX (cB (gB (aH lY (aA (aB 0) (aA (aB 1) aE)))))
 (EG "NoChart")
 (liS bR))
 (liS (aZ (bD (aB 1) (qM 2 (bI (hName 2) (bI (hName 3) gW))))
 (aZ (bD hG (hName 4))
 (aZ (gV (aY (aB 3)) (qM 2 (bI (hName 5) (bI (hName 6) gW))) jX)
 (cD (aH cE (aA (aH dO (aA (aB 4) aE)) aE))))))))
def cZ:FX:=fnX 2 7 fP
abbrev lK:Stmt:=top 36
noncomputable abbrev sQ:Te:=["_law_deck_here","_law_places","_law_heaps","_law_place"]
noncomputable abbrev mU:Te:=["_law_deck_here","_law_places"]
def sc__law_parted:bC sQ mU (aN lK):=by sleep 990
def kK:SF:=(eZ (bL "list" bW (fOp ixF (aB 2) (fOp fT (bL "list" iI (aB 0) aE) (fC (.int 4)))) (aA (aB 3) aE)))
def pW:EF:=(aHo [Y] (uM (aB 2)) (hName 0) (gB (fOp (eqY true) (aB 0) (dS aE))) (eE (aB 0)))
def sM:SF:=(aZ (bD (dS (aA (dS aE) (aA (dS aE) (aA (dS aE) (aA (dS aE) aE))))) (hName 2))
 (aZ (gV (aY (aB 1)) (hName 3) kK)
 (cD pW)))
def gU:FN:=fnF 2 4 sM
abbrev mZ:Stmt:=top 30
noncomputable abbrev uH:Te:=["_law_one","_law_other"]
noncomputable abbrev pC:Te:=["_law_one","_law_other"]
def BW:bC uH pC (aN mZ):=by sleep 990
def AY:EF:=(fLc [Z 0,Y] (aY (aB 1)) (hName 1) cF (fOp (inD false) (aB 1) (aB 0)))
def vA:SF:=(cD (eS (fOp gtI (aH bN (aA (aB 0) aE)) (aH bN (aA (aB 1) aE))) (aH kT (aA AY aE))))
def cY:FN:=fnF 2 2 vA
abbrev nN:Stmt:=top 32
noncomputable abbrev vC:Te:=["_law_links","_law_k","_law_found","_law_at"]
noncomputable abbrev pL:Te:=["_law_links","_law_k"]
def sc__law_inner:bC vC pL (aN nN):=by sleep 990
def lO:EF:=(fLc [Z 0,Z 1,Z 3,Y] (aY (aB 0)) (hName 3) cF (eS (aH cY (aA (fOp ixF (aB 0) (aB 1)) (aA (aB 3) aE))) (aH cY (aA (aB 3) (aA (fOp ixF (aB 0) (aB 2)) aE)))))
def iG:SF:=(sIf (gB (aH cY (aA (fOp ixF (aB 0) (aB 1)) (aA (fOp ixF (aB 0) (aB 3)) aE))))
 (sIf (cB (gB (aH anyF (aA lO aE))))
 (eZ (bL "list" bW (aB 2) (aA (aB 3) aE)))
 bR)
 bR)
def uA:SF:=(aZ (bD (dS aE) (hName 2))
 (aZ (gV (fS (aA (aH bN (aA (aB 0) aE)) aE)) (hName 3) iG)
 (cD (aB 2))))
def dH:FN:=fnF 2 4 uA
abbrev mT:Stmt:=top 37
noncomputable abbrev vF:Te:=["_law_deck_here","_law_many","_law_links","_law_waiting","_law_turn","_law_places","_law_heap","_law_draw","_law_drawn","_law_link","_law_full","_law_rings","_law_k","_law_inner_here","_law_held","_law_first","_law_order"]
noncomputable abbrev oX:Te:=["_law_deck_here","_law_many"]
def sc__law_chart:bC vF oX (aN mT):=by sleep 990
def iQ:SF:=(aZ (bD (bL "list" iI (aB 0) aE) (hName 7))
 (aZ (sIf (gB (fOp gtI (fOp fT (aB 7) (fC (.int 4))) (fC (.int 0))))
  (eZ (bL "list" bW (aB 2) (aA (aH cE (aA (aB 6) aE)) aE)))
  bR)
 (sIf (jR (gB (fOp gtI (aH bN (aA (aB 6) aE)) (fC (.int 1)))) (gB (fOp gtI (fOp fT (aB 7) (fC (.int 3))) (fC (.int 0)))))
  (eZ (bL "list" bW (aB 3) (aA (aB 6) aE)))
  bR)))
def eX:SF:=(sIf (gB (fOp (eqY true) (aB 3) (hX aE)))
 (aZ (bD (bL "list" iI (aB 3) aE) (hName 5))
 (gV (aY (eE (aH gU (aA (aB 0) (aA (aB 5) aE))))) (hName 6) iQ))
  bR)
def iM:SF:=(sIf (gB (fOp (inC true) (aB 9) (aB 2)))
 (eZ (bL "list" bW (aB 2) (aA (aB 9) aE)))
 bR)
def iT:EF:=(fLc [Z 2,Y] (aY (aB 13)) (hName 1) cF (aH bN (aA (fOp ixF (aB 0) (aB 1)) aE)))
def gC:SF:=(aZ (bD (eE (aH dH (aA (aB 2) (aA (aB 12) aE)))) (hName 13))
 (aZ (bD (aH sumF (aA iT aE)) (hName 14))
 (sIf (jR (gB (fOp gtI (aH bN (aA (aB 13) aE)) (fC (.int 2)))) (gB (fOp (eqX false) (aB 14) (aH bN (aA (fOp ixF (aB 2) (aB 12)) aE)))))
  (aZ (bD (bL "list" iI (aB 0) aE) (hName 7))
 (aZ (bD (fOp fT (aB 7) (aH bN (aA (aB 13) aE))) (hName 15))
 (aZ (bD (fOp GB (fSl (aB 13) (bY (aB 15)) bT) (fSl (aB 13) bT (bY (aB 15)))) (hName 16))
 (aZ (sIf (gB (fOp (eqX false) (fOp fT (fOp lH (aB 7) (fC (.int 8))) (fC (.int 2))) (fC (.int 0))))
  (bD (fOp GB (fOp eF (fSl (aB 16) bT (bY (fC (.int 1)))) (fSl (aB 16) (bY (fC (.int 2))) bT)) (fSl (aB 16) (bY (fC (.int 1))) (bY (fC (.int 2))))) (hName 16))
  bR)
 (aZ (sIf (gB (fOp gtI (fOp ixF (aB 16) (fC (.int 0))) (fOp ixF (aB 16) (fUn rX (fC (.int 1))))))
  (eZ (bL "list" fI (aB 16) aE))
  bR)
 (sIf (gB (fOp gtI (fOp fT (fOp lH (aB 7) (fC (.int 16))) (fC (.int 4))) (fC (.int 0))))
  (eZ (bL "list" bW (aB 11) (aA (cT (aA (aB 12) (aA (aH cE (aA (aB 16) aE)) aE))) aE)))
  bR))))))
  bR)))
def vE:SF:=(aZ (bD (dS aE) (hName 2))
 (aZ (bD (dS (aA (AD false (aA (fC (.int 1)) (aA (aB 1) aE))) aE)) (hName 3))
 (aZ (gV (fS (aA (fC (.int 8)) aE)) (hName 4) eX)
 (aZ (bD (aB 2) (hName 8))
 (aZ (bD (dS aE) (hName 2))
 (aZ (aAa 2 (gV (aY (aH dO (aA (aB 8) aE))) (hName 9) iM))
 (aZ (bD (EM (aA (fC (.int 1)) (aA (aB 1) aE))) (hName 10))
 (aZ (sIf (jR (gB (fOp gtI (aB 1) (fC (.int 3)))) (gB (fOp (eqX false) (fOp fT (bL "list" iI (aB 0) aE) (fC (.int 2))) (fC (.int 0)))))
  (sIf (gB (fOp (inD true) (aB 10) (aB 2)))
  (bD (aH dO (aA (fOp eF (aB 2) (hX (aA (aB 10) aE))) aE)) (hName 2))
  bR)
  bR)
 (aZ (bD (dS aE) (hName 11))
 (aZ (gV (fS (aA (aH bN (aA (aB 2) aE)) aE)) (hName 12) gC)
 (cD (cT (aA (aH cE (aA (aB 2) aE)) (aA (aH cE (aA (aB 11) aE)) aE))))))))))))))
def kQ:FN:=fnF 2 17 vE
abbrev nL:Stmt:=top 26
noncomputable abbrev oM:Te:=["_law_thing"]
noncomputable abbrev kS:Te:=["_law_thing"]
def sR:bC oM kS (aN nL):=by sleep 990
def zS(self:FN):EF:=(fLc [Y] (aY (aB 0)) (hName 0) cF (aH self (aA (aB 0) aE)))
def pK(self:FN):SF:=(aZ (sIf (cB (gB (wM "tuple" (aB 0))))
 (cD (aB 0))
 bR)
 (cD (zS self)))
def cG:Nat->FN
 |0=>fun _ _=>Y
 |n+1=>fnF 1 1 (pK (cG n))
abbrev oO:Stmt:=top 38
noncomputable abbrev xK:Te:=["_law_chart_here","_law_links","_law_rings","_law_found","_law_k","_law_order","_law_first","_law_last","_law_places","_law_index"]
noncomputable abbrev qQ:Te:=["_law_chart_here"]
def sc__law_told:bC xK qQ (aN oO):=by sleep 990
def jH:EF:=(EJ [Y] (aY (aB 1)) (hName 0) cF (aH cE (aA (aB 0) aE)))
def nD:SF:=(bD (fOp eF (aB 8) (aH oI (aA (fOp ixF (aB 1) (aB 9)) aE))) (hName 8))
def jP:SF:=(sIf (gOr (gB (fOp gtI (aB 6) (fC (.int 0)))) (gB (fOp ltI (fOp eF (aB 7) (fC (.int 1))) (aH bN (aA (aB 5) aE)))))
 (aZ (bD (hX aE) (hName 8))
 (aZ (gV (aY (fSl (aB 5) (bY (aB 6)) (bY (fOp eF (aB 7) (fC (.int 1)))))) (hName 9) nD)
 (eZ (bL "list" bW (aB 3) (aA (aH cE (aA (aH jA (aA (aB 8) aE)) aE)) aE)))))
  bR)
def nG:SF:=(gV (CT (aA (fOp eF (aB 6) (fC (.int 1))) (aA (aH bN (aA (aB 5) aE)) aE))) (hName 7) jP)
def nA:SF:=(gV (fS (aA (aH bN (aA (aB 5) aE)) aE)) (hName 6) nG)
def qF:SF:=(aZ (bD (aB 0) (kE 2 (bI (hName 1) (bI (hName 2) gW))))
 (aZ (bD jH (hName 3))
 (aZ (gV (aY (aB 2)) (kE 2 (bI (hName 4) (bI (hName 5) gW))) nA)
 (cD (aH cE (aA (aH dO (aA (aB 3) aE)) aE))))))
def mD:FN:=fnF 1 10 qF
abbrev kB:Stmt:=top 39
noncomputable abbrev qO:Te:=["_law_many","_law_thing","error"]
noncomputable abbrev mC:Te:=["_law_many","_law_thing"]
def sc__law_refused:bC qO mC (aN kB):=by sleep 990
def gF:SF:=(cD (eS (KH jT (Z false) (aB 2)) (KH gS (Z false) (aB 2))))
def gI:SFX:=(BA (KN cZ (liA (aA (aB 0) (aA (aB 1) aE)))))
def lJ:SF:=(aZ (LO gI [⟨[("NoChart",true)],(Z 2),gF⟩])
 (cD (fC (.bool false))))
def iK:FN:=fnF 2 3 lJ
abbrev lS:Stmt:=top 28
noncomputable abbrev sI:Te:=["_law_thing"]
noncomputable abbrev nF:Te:=["_law_thing"]
def zZ:bC sI nF (aN lS):=by sleep 990
def sV:SF:=(cD (HV "list" "tuple" (aB 0)))
def bF:FN:=fnF 1 1 sV
abbrev iX:Stmt:=top 27
noncomputable abbrev pU:Te:=["_law_thing","_law_least","_law_most"]
noncomputable abbrev jY:Te:=["_law_thing","_law_least","_law_most"]
def wD:bC pU jY (aN iX):=by sleep 990
def kC:SF:=(cD (eS (wM "int" (aB 0)) (eS (GA (wM "bool" (aB 0))) (BB leI leI (aB 1) (aB 0) (aB 2)))))
def dC:FN:=fnF 3 3 kC
abbrev lX:Stmt:=top 29
noncomputable abbrev sT:Te:=["_law_many","_law_thing","_law_least","_law_place"]
noncomputable abbrev nM:Te:=["_law_many","_law_thing"]
def sc__law_is_far:bC sT nM (aN lX):=by sleep 990
def dD:SF:=(aZ (sIf (cB (gB (aH dC (aA (aB 3) (aA (aB 2) (aA (fOp wH (aB 0) (fC (.int 1))) aE))))))
 (cD (fC (.bool false)))
 bR)
 (bD (fOp eF (aB 3) (fC (.int 1))) (hName 2)))
def rY:SF:=(aZ (sIf (gOr (cB (gB (aH bF (aA (aB 1) aE)))) (gB (fOp (eqX false) (aH bN (aA (aB 1) aE)) (fC (.int 0)))))
 (cD (fC (.bool false)))
 bR)
 (aZ (bD (fC (.int 1)) (hName 2))
 (aZ (gV (aY (aB 1)) (hName 3) dD)
 (cD (fC (.bool true))))))
def gY:FN:=fnF 2 4 rY
abbrev kL:Stmt:=top 31
noncomputable abbrev qI:Te:=["_law_one","_law_other","_law_common"]
noncomputable abbrev lN:Te:=["_law_one","_law_other"]
def sc__law_crosses:bC qI lN (aN kL):=by sleep 990
def jC:EF:=(fLc [Z 1,Y] (aY (aB 0)) (hName 1) (gB (fOp (inD false) (aB 1) (aB 0))) (aB 1))
def qN:SF:=(aZ (bD jC (hName 2))
 (cD (eS (fOp (eqX true) (aB 2) (hX aE)) (eS (fOp ltI (aH bN (aA (aB 2) aE)) (aH bN (aA (aB 0) aE))) (fOp ltI (aH bN (aA (aB 2) aE)) (aH bN (aA (aB 1) aE)))))))
def iF:FN:=fnF 2 3 qN
abbrev iO:Stmt:=top 34
noncomputable abbrev nV:Te:=["_law_many","_law_thing","_law_links","_law_at"]
noncomputable abbrev jB:Te:=["_law_many","_law_thing"]
def sc__law_are_links:bC nV jB (aN iO):=by sleep 990
def iA:EF:=(fLc [Z 0,Y] (aY (aB 1)) (hName 1) cF (aH gY (aA (aB 0) (aA (aB 1) aE))))
def lZ:EF:=(fLc [Y] (aY (aB 1)) (hName 0) cF (aH cE (aA (aB 0) aE)))
def lF:EF:=(fLc [Z 2,Z 3,Y] (aY (aB 2)) (hName 2) cF (aH iF (aA (fOp ixF (aB 0) (aB 1)) (aA (aB 2) aE))))
def hJ:SF:=(aZ (sIf (jR (gB (fOp gtI (aB 3) (fC (.int 0)))) (cB (gB (fOp ltX (fOp ixF (aB 2) (fOp wH (aB 3) (fC (.int 1)))) (fOp ixF (aB 2) (aB 3))))))
 (cD (fC (.bool false)))
 bR)
 (sIf (gB (aH anyF (aA lF aE)))
  (cD (fC (.bool false)))
  bR))
def nX:SF:=(aZ (sIf (gOr (cB (gB (aH bF (aA (aB 1) aE)))) (cB (gB (aH kT (aA iA aE)))))
 (cD (fC (.bool false)))
 bR)
 (aZ (bD lZ (hName 2))
 (aZ (gV (fS (aA (aH bN (aA (aB 2) aE)) aE)) (hName 3) hJ)
 (cD (fC (.bool true))))))
def gJ:FN:=fnF 2 4 nX
abbrev kM:Stmt:=top 33
noncomputable abbrev qB:Te:=["_law_links","_law_ring","_law_index","_law_order","_law_places"]
noncomputable abbrev lV:Te:=["_law_links","_law_ring"]
def sc__law_is_ring:bC qB lV (aN kM):=by sleep 990
def iZ:SF:=(sIf (cB (gB (aH dC (aA (aB 2) (aA (fC (.int 0)) (aA (fOp wH (aH bN (aA (aB 0) aE)) (fC (.int 1))) aE))))))
 (cD (fC (.bool false)))
 bR)
def gL:SF:=(bD (fOp eF (aB 4) (aH oI (aA (fOp ixF (aB 0) (aB 2)) aE))) (hName 4))
def dQ:SF:=(aZ (sIf (gOr (cB (gB (aH bF (aA (aB 1) aE)))) (gOr (gB (fOp (eqX true) (aH bN (aA (aB 1) aE)) (fC (.int 2)))) (gOr (cB (gB (aH bF (aA (fOp ixF (aB 1) (fC (.int 1))) aE)))) (gB (fOp ltI (aH bN (aA (fOp ixF (aB 1) (fC (.int 1))) aE)) (fC (.int 3)))))))
 (cD (fC (.bool false)))
 bR)
 (aZ (gV (aY (fOp eF (hX (aA (fOp ixF (aB 1) (fC (.int 0))) aE)) (aH oI (aA (fOp ixF (aB 1) (fC (.int 1))) aE)))) (hName 2) iZ)
 (aZ (bD (aH oI (aA (fOp ixF (aB 1) (fC (.int 1))) aE)) (hName 3))
 (aZ (sIf (gOr (gB (fOp (eqX true) (aH jA (aA (aB 3) aE)) (eE (aH dH (aA (aB 0) (aA (fOp ixF (aB 1) (fC (.int 0))) aE)))))) (gB (fOp geI (fOp ixF (aB 3) (fC (.int 0))) (fOp ixF (aB 3) (fUn rX (fC (.int 1)))))))
  (cD (fC (.bool false)))
  bR)
 (aZ (bD (hX aE) (hName 4))
 (aZ (gV (aY (aB 3)) (hName 2) gL)
 (cD (fOp (eqX false) (aH jA (aA (aB 4) aE)) (aH oI (aA (fOp ixF (aB 0) (fOp ixF (aB 1) (fC (.int 0)))) aE))))))))))
def gA:FN:=fnF 2 5 dQ
abbrev jG:Stmt:=top 35
noncomputable abbrev pV:Te:=["_law_many","_law_thing","_law_links","_law_least","_law_ring"]
noncomputable abbrev kD:Te:=["_law_many","_law_thing"]
def sc__law_is_chart:bC pV kD (aN jG):=by sleep 990
def mM:EF:=(fLc [Y] (aY (fOp ixF (aB 1) (fC (.int 0)))) (hName 0) cF (aH cE (aA (aB 0) aE)))
def bO:SF:=(aZ (sIf (gOr (cB (gB (aH gA (aA (aB 2) (aA (aB 4) aE))))) (gB (fOp ltI (fOp ixF (aB 4) (fC (.int 0))) (aB 3))))
 (cD (fC (.bool false)))
 bR)
 (bD (fOp eF (fOp ixF (aB 4) (fC (.int 0))) (fC (.int 1))) (hName 3)))
def dY:SF:=(aZ (sIf (gOr (cB (gB (aH bF (aA (aB 1) aE)))) (gOr (gB (fOp (eqX true) (aH bN (aA (aB 1) aE)) (fC (.int 2)))) (gOr (cB (gB (aH gJ (aA (aB 0) (aA (fOp ixF (aB 1) (fC (.int 0))) aE))))) (cB (gB (aH bF (aA (fOp ixF (aB 1) (fC (.int 1))) aE)))))))
 (cD (fC (.bool false)))
 bR)
 (aZ (bD mM (hName 2))
 (aZ (bD (fC (.int 0)) (hName 3))
 (aZ (gV (aY (fOp ixF (aB 1) (fC (.int 1)))) (hName 4) bO)
 (cD (fC (.bool true)))))))
def fL:FN:=fnF 2 5 dY
abbrev KZ:Stmt:=top 40
noncomputable abbrev aEv:Te:=["_law_script","_law_deck_here","_law_k","_law_many","_law_chart_here","_law_lists_here","_law_due","_law_handed","_law_found","_law_unlike","_law_links","_law_rings","_law_bent","_law_turn","_law_thing"]
noncomputable abbrev VE:Te:=["_law_script"]
def sc_law:bC aEv VE (aN KZ):=by sleep 990
def DW:EF:=(cT (aA (cT (aA (cT (aA (fC (.int 1)) aE)) aE)) (aA (cT aE) aE)))
def ZU(γ:Ga)(M:Sto):DW γ M=Z (.d (.tuple [(.tuple [(.tuple [(.int 1)])]),(.tuple [])]),M):=rfl
def EH:EF:=(cT (aA (cT (aA (fC (.int 1)) aE)) aE))
def WN(γ:Ga)(M:Sto):EH γ M=Z (.d (.tuple [(.tuple [(.int 1)])]),M):=rfl
def yT:EF:=(fLc [Y] (aY (aB 8)) (hName 0) cF (wM "tuple" (aB 0)))
def vG:SF:=(aZ (bD (oY cZ (aA (aB 3) (aA (aB 7) aE))) (hName 8))
 (aZ (sIf (gOr (cB (gB (wM "tuple" (aB 8)))) (gB (fOp (eqX true) (aB 8) (aB 6))))
  (cD (fC (.bool false)))
  bR)
 (sIf (cB (gB (aH kT (aA yT aE))))
  (cD (fC (.bool false)))
  bR)))
def yD:EF:=(fLc [Z 6,Y,Y] (sH (aA (aB 6) aE)) (kE 2 (bI (hName 1) (bI (hName 2) gW))) (gB (fOp (inD true) (aB 2) (fSl (aB 0) bT (bY (aB 1))))) (aB 2))
def FQ:EF:=(cT (aA (cT (aA (fC (.int 0)) (aA (cT (aA (fC (.int 0)) (aA (fC (.int 1)) (aA (fC (.int 2)) aE)))) aE))) aE))
def VC(γ:Ga)(M:Sto):FQ γ M=Z (.d (.tuple [(.tuple [(.int 0),(.tuple [(.int 0),(.int 1),(.int 2)])])]),M):=rfl
def FG:EF:=(cT (aA (cT (aA (cT aE) aE)) (aA (cT aE) aE)))
def UW(γ:Ga)(M:Sto):FG γ M=Z (.d (.tuple [(.tuple [(.tuple [])]),(.tuple [])]),M):=rfl
def HE:EF:=(cT (aA (cT (aA (cT (aA (fC (.int 0)) (aA (fC (.int 1)) aE))) aE)) (aA (cT aE) aE)))
def aAb(γ:Ga)(M:Sto):HE γ M=Z (.d (.tuple [(.tuple [(.tuple [(.int 0),(.int 1)])]),(.tuple [])]),M):=rfl
def vI:SF:=(aZ (bD (fOp ixF (aB 12) (fOp fT (bL "list" iI (aB 1) aE) (fC (.int 13)))) (hName 14))
 (sIf (jR (cB (gB (aH fL (aA (aB 3) (aA (aB 14) aE))))) (cB (gB (aH iK (aA (aB 3) (aA (aB 14) aE))))))
  (cD (fC (.bool false)))
  bR))
def yG:SF:=(aZ (bD (fOp eF (fC (.int 1)) (fOp fT (bL "list" iI (aB 1) aE) (fC (.int 9)))) (hName 3))
 (aZ (bD (aH kQ (aA (aB 1) (aA (aB 3) aE))) (hName 4))
 (aZ (bD (aH (cG 6) (aA (aB 4) aE)) (hName 5))
 (aZ (bD (aH mD (aA (aB 4) aE)) (hName 6))
 (aZ (gV (aY (hX (aA (aB 4) (aA (aB 5) aE)))) (hName 7) vG)
 (aZ (bD yD (hName 9))
 (aZ (sIf (gOr (gB (fOp (eqX true) (aB 5) (aH (cG 6) (aA (aB 4) aE)))) (gB (fOp (eqX true) (aH bN (aA (aB 6) aE)) (aH bN (aA (aB 9) aE)))))
  (cD (fC (.bool false)))
  bR)
 (aZ (bD (aB 4) (kE 2 (bI (hName 10) (bI (hName 11) gW))))
 (aZ (bD (dS (aA (cT (aA (fOp eF (aB 10) (fSl (aB 10) bT (bY (fC (.int 1))))) (aA (aB 11) aE))) (aA (cT (aA (RT (aB 10) (bY (fUn rX (fC (.int 1))))) (aA (aB 11) aE))) (aA (cT (aA (aB 10) (aA (fOp eF (aB 11) (fSl (aB 11) bT (bY (fC (.int 1))))) aE))) aE)))) (hName 12))
 (aZ (eZ (bL "list" bW (aB 12) (aA (cT (aA (aB 10) (aA FQ aE))) aE)))
 (aZ (bD (fOp eF (aB 12) (hX (aA (cT (aA (aB 10) aE)) (aA (fC .none) (aA (fC (.int 0)) (aA (fC (.str "")) (aA FE (aA (cT (aA (aB 10) (aA (fC .none) aE))) aE)))))))) (hName 12))
 (aZ (bD (fOp eF (aB 12) (hX (aA HE (aA (cT (aA (cT (aA (cT (aA (aB 3) aE)) aE)) (aA (cT aE) aE))) (aA FG aE))))) (hName 12))
 (gV (fS (aA (fC (.int 3)) aE)) (hName 13) vI)))))))))))))
def aEr:SF:=(aZ (bD (aH mF (aA (aB 0) (aA (fC (.int 440)) aE))) (hName 1))
 (aZ (sIf (gB (fOp (eqX true) (oY cZ (aA (fC (.int 2)) (aA DW aE))) EH))
  (cD (fC (.bool false)))
  bR)
 (aZ (gV (fS (aA (fC (.int 3)) aE)) (hName 2) yG)
 (cD (fC (.bool true))))))
def F_law:FN:=fnF 1 15 aEr
structure Txt(K:Fg)(mg:Str->Ti):Prop where
 hB:SC mg ["ValueError","all","any","bool","enumerate","int","isinstance","len","list","min","range","sorted","sum","tuple","zip"]
 v65:mg "NoChart"=Z (.ref (eU K "NoChart"))
 v16:W.excIn K (eU K "NoChart") bmV "ValueError.__new__"=true
 v17:W.exmOne K (.ref (eU K "NoChart")) (.ref (eU K "NoChart"))=Z true
 v66:XC K (eU K "NoChart")
 v26:IL K (.type "ValueError") gS=true
 v27:W.kitOne K (.type "NoneType") (.type "ValueError")=Z false
 v67:mg "CutError"=Z (.ref (eU K "CutError"))
 v29:IL K (.ref (eU K "CutError")) jT=true
 v30:W.kitOne K (.type "NoneType") (.ref (eU K "CutError"))=Z false
 v31:Def K mg "_law_deck" pA
 v32:Def K mg "is_whole" qV
 v33:Def K mg "is_place" qP
 v34:Def K mg "is_row" wK
 v35:Def K mg "is_row_of" pF
 v36:Def K mg "straight_within" fH
 v37:Def K mg "bits" FU
 v38:Def K mg "is_ring" tG
 v39:Def K mg "is_rising" oW
 v40:Def K mg "are_rings" pB
 v41:Def K mg "are_rising_places" fX
 v42:Def K mg "is_link" tV
 v43:Def K mg "is_crossed" nB
 v44:Def K mg "any_cross" pR
 v45:Def K mg "are_links" pM
 v46:Def K mg "is_chart" rJ
 v47:Def K mg "joined" vR
 v48:Def K mg "ring_sides" mV
 v49:Def K mg "chart_sides" mB
 v50:Def K mg "_law_parted" lK
 v51:Def K mg "_law_holds" mZ
 v52:Def K mg "_law_inner" nN
 v53:Def K mg "_law_chart" mT
 v54:Def K mg "_law_lists" nL
 v55:Def K mg "_law_told" oO
 v56:Def K mg "_law_refused" kB
 v57:Def K mg "_law_is_row" lS
 v58:Def K mg "_law_is_whole" iX
 v59:Def K mg "_law_is_far" lX
 v60:Def K mg "_law_crosses" kL
 v61:Def K mg "_law_are_links" iO
 v62:Def K mg "_law_is_ring" kM
 v63:Def K mg "_law_is_chart" jG
 v64:Def K mg "law" KZ
 ot:∃T,pN K T (("straight_within":Str)++(".<locals>.":Str)++("<lambda>":Str))/\K.lookup T=Y
 ctb:wO K "straight_within"=true
section
variable{P:Uf}{w:World}{K:Fg}{mg:Str->Ti}{base:Heap}
def OO(T:Txt K mg):∀nm∈(["NoChart"]:Te),XC K (eU K nm):=(VR T.v66 aBS)
def DV(T:Txt K mg):Callee P w K mg base 1 "_law_deck" qX (spM K mF):=
 T.v31.okG (N:=xP) (ps:=qX) (k:=0) (b:=mR) sc__law_deck (by sleep 992) fun f cdv A outer s H E a=>
  (aO (bG 2 (fun _=>sc__law_deck.nd) (cO (aCl (fun _=>rfl)) (by sleep 988) A1q (aD (aC 0) aG)))
   (aO (cX (bV (aIF (fun _=>rfl) (fun _=>a.units)) (aC 2) (lE aG))
    (aQ (bG 2 (fun _=>sc__law_deck.nd) (hW (aD aP aG))))
    bZ)
   (aO (bG 3 (fun _=>sc__law_deck.nd) (bP kP (bU dF (aC 2) aP) aP))
   (aO (zF (bP FR (bU dF (aC 2) aP) aP) (YK aDG (aC 2) aP))
   (aO (bG 4 (fun _=>sc__law_deck.nd) (hW aG))
   (aO (dX (fun _=>F6) (fun _=>rfl) (lA (by sleep 988) (aD (aC 1) aG)) (aR 5 (fun _=>sc__law_deck.nd))
    (aO (bG 6 (fun _=>sc__law_deck.nd) (bP kP (aC 5) (aS dG (by sleep 988) O0 (aD (aC 2) aG))))
   (aO (bG 7 (fun _=>sc__law_deck.nd) (bP kP (bU dF (aC 2) (aC 6)) aP))
   (aO (cX (bV (HB (fun _=>rfl) (fun _=>a.units)) (aC 3) aP)
    (aO (bG 7 (fun _=>sc__law_deck.nd) (bP kP (bP iD (bP iD (bU dF (aC 2) (aC 6)) (bP KB (bP KB (aC 5) (aC 5)) aP)) (bP KB aP (aC 5))) aP))
   (aO (bG 7 (fun _=>sc__law_deck.nd) (bP kP (bP iD (bP KB (aC 7) (bU dF (lE (aD aP (aD aP (aD aP (aD aP aG))))) (bP kP (aC 5) aP))) aP) aP))
   (aQ (bG 7 (fun _=>sc__law_deck.nd) (bP kP (bP KB (aC 7) (aC 7)) aP)))))
    (aQ (zF (bP FR (bU dF (aC 2) (aC 6)) aP) (YK aDG (aC 2) (aC 6)))))
   (aQ (gG (fM (fun _=>rfl) (aC 4) (aD (aC 7) aG))))))))
   (aO (gG (zH (fun _=>rfl) (aC 4)))
   (aQ (bE (aC 4))))))))))
def KJ(T:Txt K mg):Callee P w K mg base 1 "is_whole" tI (spM K tJ):=
 T.v32.okG (N:=yW) (ps:=tI) (k:=0) (b:=AZ) JT (by sleep 991) fun f cdv A outer s H E a=>
  (aQ (bE (eI (tF (T:="int") (fun _=>rfl) (by decide) (aC 0) (fun _=>cK) (by sleep 988) (by sleep 988) boot_int) (hZ (MP (tF (T:="bool") (fun _=>rfl) (by decide) (aC 0) (fun _=>cK) (by sleep 988) (by sleep 988) boot_bool))))))
def rC(T:Txt K mg):Callee P w K mg base 2 "is_place" tS (spM K cR):=
 T.v33.okG (N:=AI) (ps:=tS) (k:=1) (b:=oQ) IK (by sleep 992) fun f cdv A outer s H E a=>
  (aQ (bE (eI (bB (fun _=>KJ T) a.le (aD (aC 1) aG)) (hZ (KG aHr JJ aP (aC 1) (aC 0))))))
def oB(T:Txt K mg):Callee P w K mg base 1 "is_row" yZ (spM K fZ):=
 T.v34.okG (N:=IE) (ps:=yZ) (k:=0) (b:=IV) UK (by sleep 991) fun f cdv A outer s H E a=>
  (aQ (bE (QU (T:="list") (U:="tuple") (fun _=>rfl) (by decide) (by decide) (aC 0) (fun _=>cK) (by sleep 988) (by sleep 988) (by sleep 988) A1q S6)))
def uI(T:Txt K mg):Callee P w K mg base 2 "is_row_of" qU (spM K fW):=
 T.v35.okG (N:=xM) (ps:=qU) (k:=1) (b:=xG) DZ (by sleep 992) fun f cdv A outer s H E a=>
  (aQ (bE (eI (bB (fun _=>oB T) a.le (aD (aC 0) aG)) (hZ (iS (HB (fun _=>rfl) (fun _=>a.units)) (aS dG (by sleep 988) O0 (aD (aC 0) aG)) (aC 1))))))
def tM(T:Txt K mg):Callee P w K mg base 1 "straight_within" iL (spM K iH):=
 T.ot.elim fun TT c=>T.v36.okT (N:=mI) (ps:=iL) (k:=0) (b:=mJ) T.ctb c.1 (by decide +kernel) sc_straight_within (by sleep 991) fun f cdv A outer s H E d a=>
  (aO (vU 1 (fun _=>sc_straight_within.nd) (N':=(["side"]:Te)) (cap:=[Y]) (fun _=>rfl) (by sleep 987) (bQ (fun _=>rfl) (aC 0)) (aR 0 (by sleep 989)) cM (hW aG))
   (aO (dX (fun _=>F6) (fun _=>rfl) (yF (fun _=>rfl) (by sleep 988) (aD (aC 0) aG)) (oR (fun _=>rfl) (fun _=>rfl) (bX (aR 2 (fun _=>sc_straight_within.nd)) (bX (aR 3 (fun _=>sc_straight_within.nd)) gZ)))
    (aO (uY 4 (fun _=>sc_straight_within.nd) (N':=(["at","side","k","other"]:Te)) (cap:=[Z 2,Z 3,Y,Y]) (fun _=>rfl) (by sleep 987) (yF (fun _=>rfl) (by sleep 988) (aD (aC 0) aG)) (oR (fun _=>rfl) (fun _=>rfl) (bX (aR 2 (by sleep 989)) (bX (aR 3 (by sleep 989)) gZ))) (BG (pY (vN (bV (EL (fun _=>rfl) (fun _=>a.units)) (aC 2) (aC 0)) (rV (bV (HB (fun _=>rfl) (fun _=>a.units)) (bP VZ (aC 1) (aC 3)) (aC 1)))))) (aC 2))
   (aQ (cX (aFs (fun _=>rfl) (aC 4))
    (aQ (gG (fM (fun _=>rfl) (bU dF (aC 1) (aDr 0 c.1 (fun _=>rfl) (fun _=>rfl) (fun _=>a.depth) (by sleep 988) (aD (aC 4) aG) (fun _=>rfl) (fun _=>rfl) (fun _=>rfl) (fun _=>d) (fun _=>aAd (sc0:=aN fH) rfl (by decide +kernel)) (fun _ _ _ _ _=>rfl) (by decide +kernel))) (aD (aC 2) aG))))
    bZ))))
   (aQ (bE (aC 1)))))
def OD(T:Txt K mg):Callee P w K mg base 1 "bits" MZ (spM K wG):=
 T.v37.okG (N:=aAZ) (ps:=MZ) (k:=0) (b:=aAz) aDj (by sleep 991) fun f cdv A outer s H E a=>
  (aQ (bE (aS (NB (fun _=>rfl) (fun _=>rfl)) (by sleep 988) boot_sum (aD (gN (N':=(["place"]:Te)) (cap:=[Y]) (fun _=>rfl) (by sleep 987) (bQ (fun _=>rfl) (aC 0)) (aR 0 (by sleep 989)) cM (bP aHU aP (aC 0))) aG))))
def LM(T:Txt K mg):Callee P w K mg base 3 "is_ring" wL (spM K rS):=
 T.v38.okG (N:=DD) (ps:=wL) (k:=2) (b:=DJ) NQ (by sleep 994) fun f cdv A outer s H E a=>
  (aO (cX (pY (jU (dE (cU (bB (fun _=>oB T) a.le (aD (aC 3) aG)))) (jU (dE (cU (aS (vJ (fun _=>rfl) (fun _=>rfl)) (by sleep 988) boot_all (aD (gN (N':=(["links","at"]:Te)) (cap:=[Z 0,Y]) (fun _=>rfl) (by sleep 987) (bQ (fun _=>rfl) (aC 3)) (aR 1 (by sleep 989)) cM (bB (fun _=>rC T) a.le (aD (aS dG (by sleep 988) O0 (aD (aC 0) aG)) (aD (aC 1) aG)))) aG)))) (kG (bV (WM (fun _=>rfl) (fun _=>a.units)) (aS (qY (fun _=>rfl)) (by sleep 988) A0v (aD (aC 3) aG)) (aC 1))))))
   (aQ (bE fJ))
   bZ)
   (aQ (bE (eI (iS aIH (aS dG (by sleep 988) O0 (aD (aC 3) aG)) aP) (eI (iS JJ (bU dF (aC 3) aP) (bU dF (aC 3) (QV OV aP))) (hZ (iS (HB (fun _=>rfl) (fun _=>a.units)) (aS (NB (fun _=>rfl) (fun _=>rfl)) (by sleep 988) boot_sum (aD (gN (N':=(["links","at"]:Te)) (cap:=[Z 0,Y]) (fun _=>rfl) (by sleep 987) (bQ (fun _=>rfl) (aC 3)) (aR 1 (by sleep 989)) cM (aS dG (by sleep 988) O0 (aD (bU dF (aC 0) (aC 1)) aG))) aG)) (aS dG (by sleep 988) O0 (aD (bU dF (aC 0) (aC 2)) aG)))))))))
def pQ(T:Txt K mg):Callee P w K mg base 1 "is_rising" qG (spM K eB):=
 T.v39.okG (N:=xD) (ps:=qG) (k:=0) (b:=xC) HJ (by sleep 991) fun f cdv A outer s H E a=>
  (aQ (bE (aS (vJ (fun _=>rfl) (fun _=>rfl)) (by sleep 988) boot_all (aD (gN (N':=(["one","other"]:Te)) (cap:=[Y,Y]) (fun _=>rfl) (by sleep 987) (aDi (fun _=>rfl) (by sleep 988) (aD (aC 0) (aD (pS (fun _=>rfl) (aC 0) (eR aP) kR) aG))) (oR (fun _=>rfl) (fun _=>rfl) (bX (aR 0 (by sleep 989)) (bX (aR 1 (by sleep 989)) gZ))) cM (iS (aDT (fun _=>rfl) (fun _=>a.units1)) (aC 0) (aC 1))) aG))))
def GY(T:Txt K mg):Callee P w K mg base 4 "are_rings" qJ (spM K jQ):=
 T.v40.okG (N:=wV) (ps:=qJ) (k:=3) (b:=xO) sc_are_rings (by sleep 992) fun f cdv A outer s H E a=>
  (aO (cX (pY (jU (dE (cU (bB (fun _=>oB T) a.le (aD (aC 1) aG)))) (kG (dE (cU (aS (vJ (fun _=>rfl) (fun _=>rfl)) (by sleep 988) boot_all (aD (gN (N':=(["links","ring"]:Te)) (cap:=[Z 0,Y]) (fun _=>rfl) (by sleep 987) (bQ (fun _=>rfl) (aC 1)) (aR 1 (by sleep 989)) cM (eI (bB (fun _=>uI T) a.le (aD (aC 1) (aD aP aG))) (hZ (bB (fun _=>rC T) a.le (aD (aS dG (by sleep 988) O0 (aD (aC 0) aG)) (aD (bU dF (aC 1) aP) aG)))))) aG)))))))
   (aQ (bE fJ))
   bZ)
   (aO (bG 2 (fun _=>sc_are_rings.nd) (bB (fun _=>tM T) a.le (aD (gN (N':=(["link"]:Te)) (cap:=[Y]) (fun _=>rfl) (by sleep 987) (bQ (fun _=>rfl) (aC 0)) (aR 0 (by sleep 989)) cM (bB (fun _=>OD T) a.le (aD (aC 0) aG))) aG)))
   (aQ (bE (eI (bB (fun _=>pQ T) a.le (aD (gN (N':=(["ring"]:Te)) (cap:=[Y]) (fun _=>rfl) (by sleep 987) (bQ (fun _=>rfl) (aC 1)) (aR 0 (by sleep 989)) cM (bU dF (aC 0) aP)) aG)) (hZ (aS (vJ (fun _=>rfl) (fun _=>rfl)) (by sleep 988) boot_all (aD (gN (N':=(["links","within","k","order"]:Te)) (cap:=[Z 0,Z 2,Y,Y]) (fun _=>rfl) (by sleep 987) (bQ (fun _=>rfl) (aC 1)) (FD (fun _=>rfl) (fun _=>rfl) (bX (aR 2 (by sleep 989)) (bX (aR 3 (by sleep 989)) gZ))) cM (bB (fun _=>LM T) a.le (aD (aC 0) (aD (bU dF (aC 1) (aC 2)) (aD (aC 2) (aD (aC 3) aG)))))) aG))))))))
def qD(T:Txt K mg):Callee P w K mg base 3 "are_rising_places" gR (spM K eO):=
 T.v41.okG (N:=kN) (ps:=gR) (k:=2) (b:=kO) qL (by sleep 992) fun f cdv A outer s H E a=>
  (aQ (bE (eI (bB (fun _=>oB T) a.le (aD (aC 1) aG)) (eI (aS (vJ (fun _=>rfl) (fun _=>rfl)) (by sleep 988) boot_all (aD (gN (N':=(["many","one"]:Te)) (cap:=[Z 0,Y]) (fun _=>rfl) (by sleep 987) (bQ (fun _=>rfl) (aC 1)) (aR 1 (by sleep 989)) cM (bB (fun _=>rC T) a.le (aD (aC 0) (aD (aC 1) aG)))) aG)) (hZ (bB (fun _=>pQ T) a.le (aD (aC 1) aG)))))))
def MY(T:Txt K mg):Callee P w K mg base 4 "is_link" wU (spM K oH):=
 T.v42.okG (N:=CQ) (ps:=wU) (k:=3) (b:=CG) LV (by sleep 992) fun f cdv A outer s H E a=>
  (aQ (bE (eI (bB (fun _=>qD T) a.le (aD (aC 0) (aD (aC 1) aG))) (eI (iS xZ (aS dG (by sleep 988) O0 (aD (aC 1) aG)) aP) (hZ (iS xZ (bU dF (aC 1) aP) aP))))))
def BN(T:Txt K mg):Callee P w K mg base 1 "is_crossed" pO (spM K kU):=
 T.v43.okG (N:=uG) (ps:=pO) (k:=0) (b:=uT) CC (by sleep 992) fun f cdv A outer s H E a=>
  (aQ (bE (aS (ZN (fun _=>rfl) (fun _=>rfl)) (by sleep 988) boot_any (aD (gN (N':=(["one","other"]:Te)) (cap:=[Z 0,Y]) (fun _=>rfl) (by sleep 987) (bQ (fun _=>rfl) (aC 1)) (aR 1 (by sleep 989)) cM (iS (FJ (fun _=>rfl) (fun _=>a.units1)) (bP VZ (aC 0) (aC 1)) (cH (aD aP (aD (aC 0) (aD (aC 1) aG)))))) aG))))
def EN(T:Txt K mg):Callee P w K mg base 2 "any_cross" qT (spM K mG):=
 T.v44.okG (N:=xH) (ps:=qT) (k:=1) (b:=wW) sc_any_cross (by sleep 991) fun f cdv A outer s H E a=>
  (aO (dX (fun _=>F6) (fun _=>rfl) (yF (fun _=>rfl) (by sleep 988) (aD (aC 0) aG)) (oR (fun _=>rfl) (fun _=>rfl) (bX (aR 1 (fun _=>sc_any_cross.nd)) (bX (aR 2 (fun _=>sc_any_cross.nd)) gZ)))
   (aQ (cX (cU (bB (fun _=>BN T) a.le (aD (aC 2) (aD (pS (fun _=>rfl) (aC 0) kR (eR (aC 1))) aG))))
   (aQ (bE fJ))
   bZ)))
   (aQ (bE fJ)))
def GQ(T:Txt K mg):Callee P w K mg base 5 "are_links" qR (spM K jV):=
 T.v45.okG (N:=wY) (ps:=qR) (k:=4) (b:=xI) EI (by sleep 992) fun f cdv A outer s H E a=>
  (aO (cX (pY (jU (dE (cU (bB (fun _=>oB T) a.le (aD (aC 1) aG)))) (kG (dE (cU (aS (vJ (fun _=>rfl) (fun _=>rfl)) (by sleep 988) boot_all (aD (gN (N':=(["many","link"]:Te)) (cap:=[Z 0,Y]) (fun _=>rfl) (by sleep 987) (bQ (fun _=>rfl) (aC 1)) (aR 1 (by sleep 989)) cM (bB (fun _=>MY T) a.le (aD (aC 0) (aD (aC 1) aG)))) aG)))))))
   (aQ (bE fJ))
   bZ)
   (aQ (bE (eI (bB (fun _=>pQ T) a.le (aD (gN (N':=(["link"]:Te)) (cap:=[Y]) (fun _=>rfl) (by sleep 987) (bQ (fun _=>rfl) (aC 1)) (aR 0 (by sleep 989)) cM (cO (gH (fun _=>rfl)) (by sleep 988) S6 (aD (aC 0) aG))) aG)) (hZ (MP (bB (fun _=>EN T) a.le (aD (gN (N':=(["link"]:Te)) (cap:=[Y]) (fun _=>rfl) (by sleep 987) (bQ (fun _=>rfl) (aC 1)) (aR 0 (by sleep 989)) cM (bB (fun _=>OD T) a.le (aD (aC 0) aG))) aG))))))))
def HS(T:Txt K mg):Callee P w K mg base 6 "is_chart" tW (spM K lY):=
 T.v46.okG (N:=zP) (ps:=tW) (k:=5) (b:=AC) KD (by sleep 992) fun f cdv A outer s H E a=>
  (aQ (bE (eI (bB (fun _=>uI T) a.le (aD (aC 1) (aD aP aG))) (eI (bB (fun _=>GQ T) a.le (aD (aC 0) (aD (bU dF (aC 1) aP) aG))) (hZ (bB (fun _=>GY T) a.le (aD (bU dF (aC 1) aP) (aD (bU dF (aC 1) aP) aG))))))))
def SK(T:Txt K mg):Callee P w K mg base 1 "joined" zK (spM K uP):=
 T.v47.okG (N:=JE) (ps:=zK) (k:=0) (b:=KL) UV (by sleep 991) fun f cdv A outer s H E a=>
  (aQ (bE (cO (gH (fun _=>rfl)) (by sleep 988) S6 (aD (aS (qY (fun _=>rfl)) (by sleep 988) A0v (aD (aEY (N':=(["heap","place"]:Te)) (cap:=[Y,Y]) (fun _=>rfl) (by sleep 987) (bQ (fun _=>rfl) (aC 0)) (aR 0 (by sleep 989)) cM (bQ (fun _=>rfl) (aC 0)) (aR 1 (by sleep 989)) cM (aC 1)) aG)) aG))))
def BQ(T:Txt K mg):Callee P w K mg base 2 "ring_sides" pG (spM K oK):=
 T.v48.okG (N:=uD) (ps:=pG) (k:=1) (b:=oJ) sc_ring_sides (by sleep 991) fun f cdv A outer s H E a=>
  (aO (bG 1 (fun _=>sc_ring_sides.nd) (aS dG (by sleep 988) O0 (aD (aC 0) aG)))
   (aO (UF 2 (fun _=>sc_ring_sides.nd) (N':=(["many","first","last"]:Te)) (cap:=[Z 1,Y,Y]) (fun _=>rfl) (by sleep 987) (lA (by sleep 988) (aD (aC 1) aG)) (aR 1 (by sleep 989)) cM (QG (by sleep 988) (aD (bP iD (aC 1) aP) (aD (bP iD (aC 0) aP) aG))) (aR 2 (by sleep 989)) cM (cH (aD (aC 1) (aD (aC 2) aG))))
   (aQ (bE (aGQ (N':=(["row","many","first","last"]:Te)) (cap:=[Z 0,Z 1,Y,Y]) (fun _=>rfl) (by sleep 987) (bQ (fun _=>rfl) (aC 2)) (oR (fun _=>rfl) (fun _=>rfl) (bX (aR 2 (by sleep 989)) (bX (aR 3 (by sleep 989)) gZ))) (BG (bV JJ (bP OJ (aC 3) (aC 2)) (aC 1))) (bB (fun _=>SK T) a.le (aD (pS (fun _=>rfl) (aC 0) (eR (aC 2)) (eR (aC 3))) aG)))))))
def lI(T:Txt K mg):rR P w K mg base 7 "chart_sides" nK (spX K cZ):=
 T.v49.okX (N:=sW) (ps:=nK) (k:=6) (b:=fP) sc_chart_sides (by sleep 992) fun f cdv A outer s H E a=>
  (aAq (aGx (dE (cU (bB (fun _=>HS T) a.le (aD (aC 0) (aD (aC 1) aG)))))
   (PJ (LP (fun i=>aDV i) (fun _=>rfl) (fun _=>rfl) (fun _=>T.v65) T.v16))
   (VN bZ))
   (VN (aO (zF (aC 1) (FD (fun _=>rfl) (fun _=>rfl) (bX (aR 2 (fun _=>sc_chart_sides.nd)) (bX (aR 3 (fun _=>sc_chart_sides.nd)) gZ))))
   (aO (vU 4 (fun _=>sc_chart_sides.nd) (N':=(["link"]:Te)) (cap:=[Y]) (fun _=>rfl) (by sleep 987) (bQ (fun _=>rfl) (aC 2)) (aR 0 (by sleep 989)) cM (cO (gH (fun _=>rfl)) (by sleep 988) S6 (aD (aC 0) aG)))
   (aO (dX (fun i=>((fun i=>aDV i) i).own) (fun _=>rfl) (bQ (fun _=>rfl) (aC 3)) (FD (fun _=>rfl) (fun _=>rfl) (bX (aR 5 (fun _=>sc_chart_sides.nd)) (bX (aR 6 (fun _=>sc_chart_sides.nd)) gZ)))
    (aQ (gG (SB (fun _=>rfl) (aC 4) (aD (bB (fun _=>BQ T) a.le (aD (gN (N':=(["links","at"]:Te)) (cap:=[Z 2,Y]) (fun _=>rfl) (by sleep 987) (bQ (fun _=>rfl) (aC 6)) (aR 1 (by sleep 989)) cM (bU dF (aC 0) (aC 1))) aG)) aG)))))
   (aQ (bE (cO (gH (fun _=>rfl)) (by sleep 988) S6 (aD (aS (yR (fun _=>rfl) (fun _=>a.units2)) (by sleep 988) A0v (aD (aC 4) aG)) aG)))))))))
def AW(T:Txt K mg):Callee P w K mg base 1 "_law_parted" mU (spM K gU):=
 T.v50.okG (N:=sQ) (ps:=mU) (k:=0) (b:=sM) sc__law_parted (by sleep 992) fun f cdv A outer s H E a=>
  (aO (bG 2 (fun _=>sc__law_parted.nd) (hW (aD (hW aG) (aD (hW aG) (aD (hW aG) (aD (hW aG) aG))))))
   (aO (dX (fun _=>F6) (fun _=>rfl) (bQ (fun _=>rfl) (aC 1)) (aR 3 (fun _=>sc__law_parted.nd))
    (aQ (gG (fM (fun _=>rfl) (bU dF (aC 2) (bP kP (tE (fun _=>rfl) (aC 0)) aP)) (aD (aC 3) aG)))))
   (aQ (bE (aFp (N':=(["_law_heap"]:Te)) (cap:=[Y]) (fun _=>rfl) (fun _=>rfl) (by sleep 987) (aC 2) (aR 0 (by sleep 989)) (BG (bV (WM (fun _=>rfl) (fun _=>a.units)) (aC 0) (hW aG))) (rK (aC 0)))))))
def nQ(T:Txt K mg):Callee P w K mg base 1 "_law_holds" pC (spM K cY):=
 T.v51.okG (N:=uH) (ps:=pC) (k:=0) (b:=vA) BW (by sleep 992) fun f cdv A outer s H E a=>
  (aQ (bE (eI (iS xZ (aS dG (by sleep 988) O0 (aD (aC 0) aG)) (aS dG (by sleep 988) O0 (aD (aC 1) aG))) (hZ (aS (vJ (fun _=>rfl) (fun _=>rfl)) (by sleep 988) boot_all (aD (gN (N':=(["_law_one","_law_place"]:Te)) (cap:=[Z 0,Y]) (fun _=>rfl) (by sleep 987) (bQ (fun _=>rfl) (aC 1)) (aR 1 (by sleep 989)) cM (iS (aHJ (fun _=>rfl) (fun _=>a.units1)) (aC 1) (aC 0))) aG))))))
def sG(T:Txt K mg):Callee P w K mg base 2 "_law_inner" pL (spM K dH):=
 T.v52.okG (N:=vC) (ps:=pL) (k:=1) (b:=uA) sc__law_inner (by sleep 992) fun f cdv A outer s H E a=>
  (aO (bG 2 (fun _=>sc__law_inner.nd) (hW aG))
   (aO (dX (fun _=>F6) (fun _=>rfl) (lA (by sleep 988) (aD (aS dG (by sleep 988) O0 (aD (aC 0) aG)) aG)) (aR 3 (fun _=>sc__law_inner.nd))
    (aQ (cX (cU (bB (fun _=>nQ T) a.le (aD (bU dF (aC 0) (aC 1)) (aD (bU dF (aC 0) (aC 3)) aG))))
    (aQ (cX (dE (cU (aS (ZN (fun _=>rfl) (fun _=>rfl)) (by sleep 988) boot_any (aD (gN (N':=(["_law_links","_law_k","_law_at","_law_link"]:Te)) (cap:=[Z 0,Z 1,Z 3,Y]) (fun _=>rfl) (by sleep 987) (bQ (fun _=>rfl) (aC 0)) (aR 3 (by sleep 989)) cM (eI (bB (fun _=>nQ T) a.le (aD (bU dF (aC 0) (aC 1)) (aD (aC 3) aG))) (hZ (bB (fun _=>nQ T) a.le (aD (aC 3) (aD (bU dF (aC 0) (aC 2)) aG)))))) aG))))
    (aQ (gG (fM (fun _=>rfl) (aC 2) (aD (aC 3) aG))))
    bZ))
    bZ)))
   (aQ (bE (aC 2)))))
def CA(T:Txt K mg):Callee P w K mg base 3 "_law_chart" oX (spM K kQ):=
 T.v53.okG (N:=vF) (ps:=oX) (k:=2) (b:=vE) sc__law_chart (by sleep 992) fun f cdv A outer s H E a=>
  (aO (bG 2 (fun _=>sc__law_chart.nd) (hW aG))
   (aO (bG 3 (fun _=>sc__law_chart.nd) (hW (aD (aAO false (fun _=>rfl) (by sleep 988) (by sleep 988) (aD aP (aD (aC 1) aG))) aG)))
   (aO (dX (fun _=>F6) (fun _=>rfl) (lA (by sleep 988) (aD aP aG)) (aR 4 (fun _=>sc__law_chart.nd))
    (aQ (cX (bV (WM (fun _=>rfl) (fun _=>a.units)) (aC 3) (lE aG))
    (aO (bG 5 (fun _=>sc__law_chart.nd) (tE (fun _=>rfl) (aC 3)))
   (aQ (dX (fun _=>F6) (fun _=>rfl) (bQ (fun _=>rfl) (rK (bB (fun _=>AW T) a.le (aD (aC 0) (aD (aC 5) aG))))) (aR 6 (fun _=>sc__law_chart.nd))
    (aO (bG 7 (fun _=>sc__law_chart.nd) (tE (fun _=>rfl) (aC 0)))
   (aO (cX (bV xZ (bP kP (aC 7) aP) aP)
    (aQ (gG (fM (fun _=>rfl) (aC 2) (aD (cO (gH (fun _=>rfl)) (by sleep 988) S6 (aD (aC 6) aG)) aG))))
    bZ)
   (aQ (cX (pY (vN (bV xZ (aS dG (by sleep 988) O0 (aD (aC 6) aG)) aP) (rV (bV xZ (bP kP (aC 7) aP) aP))))
    (aQ (gG (fM (fun _=>rfl) (aC 3) (aD (aC 6) aG))))
    bZ)))))))
    bZ)))
   (aO (bG 8 (fun _=>sc__law_chart.nd) (aC 2))
   (aO (bG 2 (fun _=>sc__law_chart.nd) (hW aG))
   (aO (aFh 2 (dX (fun _=>F6) (fun _=>rfl) (bQ (fun _=>rfl) (aS (yR (fun _=>rfl) (fun _=>a.units2)) (by sleep 988) A0v (aD (aC 8) aG))) (aR 9 (fun _=>sc__law_chart.nd))
    (aQ (cX (bV (YO (fun _=>rfl) (fun _=>a.units1)) (aC 9) (aC 2))
    (aQ (gG (fM (fun _=>rfl) (aC 2) (aD (aC 9) aG))))
    bZ))))
   (aO (bG 10 (fun _=>sc__law_chart.nd) (WI (fun _=>rfl) (by sleep 988) (by sleep 988) (aD aP (aD (aC 1) aG))))
   (aO (cX (pY (vN (bV xZ (aC 1) aP) (rV (bV (HB (fun _=>rfl) (fun _=>a.units)) (bP kP (tE (fun _=>rfl) (aC 0)) aP) aP))))
    (aQ (cX (bV (FJ (fun _=>rfl) (fun _=>a.units1)) (aC 10) (aC 2))
    (aQ (bG 2 (fun _=>sc__law_chart.nd) (aS (yR (fun _=>rfl) (fun _=>a.units2)) (by sleep 988) A0v (aD (bP iD (aC 2) (lE (aD (aC 10) aG))) aG))))
    bZ))
    bZ)
   (aO (bG 11 (fun _=>sc__law_chart.nd) (hW aG))
   (aO (dX (fun _=>F6) (fun _=>rfl) (lA (by sleep 988) (aD (aS dG (by sleep 988) O0 (aD (aC 2) aG)) aG)) (aR 12 (fun _=>sc__law_chart.nd))
    (aO (bG 13 (fun _=>sc__law_chart.nd) (rK (bB (fun _=>sG T) a.le (aD (aC 2) (aD (aC 12) aG)))))
   (aO (bG 14 (fun _=>sc__law_chart.nd) (aS (NB (fun _=>rfl) (fun _=>rfl)) (by sleep 988) boot_sum (aD (gN (N':=(["_law_links","_law_at"]:Te)) (cap:=[Z 2,Y]) (fun _=>rfl) (by sleep 987) (bQ (fun _=>rfl) (aC 13)) (aR 1 (by sleep 989)) cM (aS dG (by sleep 988) O0 (aD (bU dF (aC 0) (aC 1)) aG))) aG)))
   (aQ (cX (pY (vN (bV xZ (aS dG (by sleep 988) O0 (aD (aC 13) aG)) aP) (rV (bV (HB (fun _=>rfl) (fun _=>a.units)) (aC 14) (aS dG (by sleep 988) O0 (aD (bU dF (aC 2) (aC 12)) aG))))))
    (aO (bG 7 (fun _=>sc__law_chart.nd) (tE (fun _=>rfl) (aC 0)))
   (aO (bG 15 (fun _=>sc__law_chart.nd) (bP kP (aC 7) (aS dG (by sleep 988) O0 (aD (aC 13) aG))))
   (aO (bG 16 (fun _=>sc__law_chart.nd) (bP (ZP (fun _=>rfl)) (pS (fun _=>rfl) (aC 13) (eR (aC 15)) kR) (pS (fun _=>rfl) (aC 13) kR (eR (aC 15)))))
   (aO (cX (bV (HB (fun _=>rfl) (fun _=>a.units)) (bP kP (bP FR (aC 7) aP) aP) aP)
    (aQ (bG 16 (fun _=>sc__law_chart.nd) (bP (ZP (fun _=>rfl)) (bP iD (pS (fun _=>rfl) (aC 16) kR (eR aP)) (pS (fun _=>rfl) (aC 16) (eR aP) kR)) (pS (fun _=>rfl) (aC 16) (eR aP) (eR aP)))))
    bZ)
   (aO (cX (bV xZ (bU dF (aC 16) aP) (bU dF (aC 16) (QV OV aP)))
    (aQ (gG (zH (fun _=>rfl) (aC 16))))
    bZ)
   (aQ (cX (bV xZ (bP kP (bP FR (aC 7) aP) aP) aP)
    (aQ (gG (fM (fun _=>rfl) (aC 11) (aD (cH (aD (aC 12) (aD (cO (gH (fun _=>rfl)) (by sleep 988) S6 (aD (aC 16) aG)) aG))) aG))))
    bZ)))))))
    bZ)))))
   (aQ (bE (cH (aD (cO (gH (fun _=>rfl)) (by sleep 988) S6 (aD (aC 2) aG)) (aD (cO (gH (fun _=>rfl)) (by sleep 988) S6 (aD (aC 11) aG)) aG)))))))))))))))
def nO(T:Txt K mg):∀n:Nat,Callee P w K mg base (n+1) "_law_lists" kS (spM K (cG n))
 |0=>(T.v54.okNone (N:=oM) (ps:=kS) (k:=0) sR (by intro _ _ _ _ _ _ _ a;apply ar1 a;intros;rfl)).mono (by decide)
 |n+1=>(T.v54.okG (N:=oM) (ps:=kS) (k:=n+1) (b:=pK (cG n)) sR (by sleep 991) fun f cdv A outer s H E c=>
  (aO (cX (dE (cU (tF (T:="tuple") (fun _=>rfl) (by decide) (aC 0) (fun _=>cK) (by sleep 988) (by sleep 988) S6)))
   (aQ (bE (aC 0)))
   bZ)
   (aQ (bE (gN (N':=(["_law_part"]:Te)) (cap:=[Y]) (fun _=>rfl) (by sleep 987) (bQ (fun _=>rfl) (aC 0)) (aR 0 (by sleep 989)) cM (bB (fun _=>nO T n) (fun _=>c.mono (by omega)) (aD (aC 0) aG))))))).mono (by omega)
def ED(T:Txt K mg):Callee P w K mg base 1 "_law_told" qQ (spM K mD):=
 T.v55.okG (N:=xK) (ps:=qQ) (k:=0) (b:=qF) sc__law_told (by sleep 991) fun f cdv A outer s H E a=>
  (aO (zF (aC 0) (oR (fun _=>rfl) (fun _=>rfl) (bX (aR 1 (fun _=>sc__law_told.nd)) (bX (aR 2 (fun _=>sc__law_told.nd)) gZ))))
   (aO (vU 3 (fun _=>sc__law_told.nd) (N':=(["_law_link"]:Te)) (cap:=[Y]) (fun _=>rfl) (by sleep 987) (bQ (fun _=>rfl) (aC 1)) (aR 0 (by sleep 989)) cM (cO (gH (fun _=>rfl)) (by sleep 988) S6 (aD (aC 0) aG)))
   (aO (dX (fun _=>F6) (fun _=>rfl) (bQ (fun _=>rfl) (aC 2)) (oR (fun _=>rfl) (fun _=>rfl) (bX (aR 4 (fun _=>sc__law_told.nd)) (bX (aR 5 (fun _=>sc__law_told.nd)) gZ)))
    (aQ (dX (fun _=>F6) (fun _=>rfl) (lA (by sleep 988) (aD (aS dG (by sleep 988) O0 (aD (aC 5) aG)) aG)) (aR 6 (fun _=>sc__law_told.nd))
    (aQ (dX (fun _=>F6) (fun _=>rfl) (QG (by sleep 988) (aD (bP iD (aC 6) aP) (aD (aS dG (by sleep 988) O0 (aD (aC 5) aG)) aG))) (aR 7 (fun _=>sc__law_told.nd))
    (aQ (cX (pY (jU (bV xZ (aC 6) aP) (kG (bV JJ (bP iD (aC 7) aP) (aS dG (by sleep 988) O0 (aD (aC 5) aG))))))
    (aO (bG 8 (fun _=>sc__law_told.nd) (lE aG))
   (aO (dX (fun _=>F6) (fun _=>rfl) (bQ (fun _=>rfl) (pS (fun _=>rfl) (aC 5) (eR (aC 6)) (eR (bP iD (aC 7) aP)))) (aR 9 (fun _=>sc__law_told.nd))
    (aQ (bG 8 (fun _=>sc__law_told.nd) (bP iD (aC 8) (cO (AK (fun _=>rfl)) (by sleep 988) A1q (aD (bU dF (aC 1) (aC 9)) aG))))))
   (aQ (gG (fM (fun _=>rfl) (aC 3) (aD (cO (gH (fun _=>rfl)) (by sleep 988) S6 (aD (aS (qY (fun _=>rfl)) (by sleep 988) A0v (aD (aC 8) aG)) aG)) aG))))))
    bZ)))))))
   (aQ (bE (cO (gH (fun _=>rfl)) (by sleep 988) S6 (aD (aS (yR (fun _=>rfl) (fun _=>a.units2)) (by sleep 988) A0v (aD (aC 3) aG)) aG)))))))
def xT(T:Txt K mg):Callee P w K mg base 8 "_law_refused" mC (spM K iK):=
 T.v56.okG (N:=qO) (ps:=mC) (k:=7) (b:=lJ) sc__law_refused (by sleep 992) fun f cdv A outer s H E a=>
  (aO (aGK (fun _=>⟨rfl,rfl,rfl⟩) (fun _=>rfl) (PJ (VY (aBy (fun i=>aIV (fun _=>⟨rfl,rfl,rfl⟩) i) (fun _=>lI T) a.le (aGU (aD (aC 0) (aD (aC 1) aG)))))) (aBM (tab:=[("NoChart",true)]) (n:=(Z 2)) (.ref (eU K "NoChart")) (fun _=>⟨rfl,rfl,rfl⟩) (fun _=>.inl T.v65) (fun _=>⟨sc__law_refused.nd,rfl,rfl⟩) (UC T.v17 XX) (aQ (bE (eI (RH (tab:=jT) (nn:=Z false) (c:=(.ref (eU K "CutError"))) (fun _=>rfl) (.own _) (aFI (fun _=>T.v67)) (QF (OO T) T.v29 rfl) (QO T.v30) (aC 2) (fun _=>cK) (by sleep 988)) (hZ (RH (tab:=gS) (nn:=Z false) (c:=(.type "ValueError")) (fun _=>rfl) (.ty _) (aIW (by sleep 988) xX) (QF (OO T) T.v26 rfl) (QO T.v27) (aC 2) (fun _=>cK) (by sleep 988))))))
   aFF))
   (aQ (bE fJ)))
def eV(T:Txt K mg):Callee P w K mg base 1 "_law_is_row" nF (spM K bF):=
 T.v57.okG (N:=sI) (ps:=nF) (k:=0) (b:=sV) zZ (by sleep 991) fun f cdv A outer s H E a=>
  (aQ (bE (QU (T:="list") (U:="tuple") (fun _=>rfl) (by decide) (by decide) (aC 0) (fun _=>cK) (by sleep 988) (by sleep 988) (by sleep 988) A1q S6)))
def nY(T:Txt K mg):Callee P w K mg base 1 "_law_is_whole" jY (spM K dC):=
 T.v58.okG (N:=pU) (ps:=jY) (k:=0) (b:=kC) wD (by sleep 993) fun f cdv A outer s H E a=>
  (aQ (bE (eI (tF (T:="int") (fun _=>rfl) (by decide) (aC 0) (fun _=>cK) (by sleep 988) (by sleep 988) boot_int) (eI (MP (tF (T:="bool") (fun _=>rfl) (by decide) (aC 0) (fun _=>cK) (by sleep 988) (by sleep 988) boot_bool)) (hZ (KG aHr aHr (aC 1) (aC 0) (aC 2)))))))
def zM(T:Txt K mg):Callee P w K mg base 2 "_law_is_far" nM (spM K gY):=
 T.v59.okG (N:=sT) (ps:=nM) (k:=1) (b:=rY) sc__law_is_far (by sleep 992) fun f cdv A outer s H E a=>
  (aO (cX (pY (jU (dE (cU (bB (fun _=>eV T) a.le (aD (aC 1) aG)))) (kG (bV (HB (fun _=>rfl) (fun _=>a.units)) (aS dG (by sleep 988) O0 (aD (aC 1) aG)) aP))))
   (aQ (bE fJ))
   bZ)
   (aO (bG 2 (fun _=>sc__law_is_far.nd) aP)
   (aO (dX (fun _=>F6) (fun _=>rfl) (bQ (fun _=>rfl) (aC 1)) (aR 3 (fun _=>sc__law_is_far.nd))
    (aO (cX (dE (cU (bB (fun _=>nY T) a.le (aD (aC 3) (aD (aC 2) (aD (bP OJ (aC 0) aP) aG))))))
    (aQ (bE fJ))
    bZ)
   (aQ (bG 2 (fun _=>sc__law_is_far.nd) (bP iD (aC 3) aP)))))
   (aQ (bE fJ)))))
def xU(T:Txt K mg):Callee P w K mg base 1 "_law_crosses" lN (spM K iF):=
 T.v60.okG (N:=qI) (ps:=lN) (k:=0) (b:=qN) sc__law_crosses (by sleep 992) fun f cdv A outer s H E a=>
  (aO (uY 2 (fun _=>sc__law_crosses.nd) (N':=(["_law_other","_law_place"]:Te)) (cap:=[Z 1,Y]) (fun _=>rfl) (by sleep 987) (bQ (fun _=>rfl) (aC 0)) (aR 1 (by sleep 989)) (BG (bV (aHJ (fun _=>rfl) (fun _=>a.units1)) (aC 1) (aC 0))) (aC 1))
   (aQ (bE (eI (iS (EL (fun _=>rfl) (fun _=>a.units)) (aC 2) (lE aG)) (eI (iS JJ (aS dG (by sleep 988) O0 (aD (aC 2) aG)) (aS dG (by sleep 988) O0 (aD (aC 0) aG))) (hZ (iS JJ (aS dG (by sleep 988) O0 (aD (aC 2) aG)) (aS dG (by sleep 988) O0 (aD (aC 1) aG)))))))))
def tZ(T:Txt K mg):Callee P w K mg base 3 "_law_are_links" jB (spM K gJ):=
 T.v61.okG (N:=nV) (ps:=jB) (k:=2) (b:=nX) sc__law_are_links (by sleep 992) fun f cdv A outer s H E a=>
  (aO (cX (pY (jU (dE (cU (bB (fun _=>eV T) a.le (aD (aC 1) aG)))) (kG (dE (cU (aS (vJ (fun _=>rfl) (fun _=>rfl)) (by sleep 988) boot_all (aD (gN (N':=(["_law_many","_law_link"]:Te)) (cap:=[Z 0,Y]) (fun _=>rfl) (by sleep 987) (bQ (fun _=>rfl) (aC 1)) (aR 1 (by sleep 989)) cM (bB (fun _=>zM T) a.le (aD (aC 0) (aD (aC 1) aG)))) aG)))))))
   (aQ (bE fJ))
   bZ)
   (aO (bG 2 (fun _=>sc__law_are_links.nd) (gN (N':=(["_law_link"]:Te)) (cap:=[Y]) (fun _=>rfl) (by sleep 987) (bQ (fun _=>rfl) (aC 1)) (aR 0 (by sleep 989)) cM (cO (gH (fun _=>rfl)) (by sleep 988) S6 (aD (aC 0) aG))))
   (aO (dX (fun _=>F6) (fun _=>rfl) (lA (by sleep 988) (aD (aS dG (by sleep 988) O0 (aD (aC 2) aG)) aG)) (aR 3 (fun _=>sc__law_are_links.nd))
    (aO (cX (pY (vN (bV xZ (aC 3) aP) (rV (dE (bV (aDT (fun _=>rfl) (fun _=>a.units1)) (bU dF (aC 2) (bP OJ (aC 3) aP)) (bU dF (aC 2) (aC 3)))))))
    (aQ (bE fJ))
    bZ)
   (aQ (cX (cU (aS (ZN (fun _=>rfl) (fun _=>rfl)) (by sleep 988) boot_any (aD (gN (N':=(["_law_links","_law_at","_law_link"]:Te)) (cap:=[Z 2,Z 3,Y]) (fun _=>rfl) (by sleep 987) (bQ (fun _=>rfl) (aC 2)) (aR 2 (by sleep 989)) cM (bB (fun _=>xU T) a.le (aD (bU dF (aC 0) (aC 1)) (aD (aC 2) aG)))) aG)))
    (aQ (bE fJ))
    bZ))))
   (aQ (bE fJ)))))
def xY(T:Txt K mg):Callee P w K mg base 3 "_law_is_ring" lV (spM K gA):=
 T.v62.okG (N:=qB) (ps:=lV) (k:=2) (b:=dQ) sc__law_is_ring (by sleep 992) fun f cdv A outer s H E a=>
  (aO (cX (pY (jU (dE (cU (bB (fun _=>eV T) a.le (aD (aC 1) aG)))) (jU (bV (EL (fun _=>rfl) (fun _=>a.units)) (aS dG (by sleep 988) O0 (aD (aC 1) aG)) aP) (jU (dE (cU (bB (fun _=>eV T) a.le (aD (bU dF (aC 1) aP) aG)))) (kG (bV JJ (aS dG (by sleep 988) O0 (aD (bU dF (aC 1) aP) aG)) aP))))))
   (aQ (bE fJ))
   bZ)
   (aO (dX (fun _=>F6) (fun _=>rfl) (bQ (fun _=>rfl) (bP iD (lE (aD (bU dF (aC 1) aP) aG)) (cO (AK (fun _=>rfl)) (by sleep 988) A1q (aD (bU dF (aC 1) aP) aG)))) (aR 2 (fun _=>sc__law_is_ring.nd))
    (aQ (cX (dE (cU (bB (fun _=>nY T) a.le (aD (aC 2) (aD aP (aD (bP OJ (aS dG (by sleep 988) O0 (aD (aC 0) aG)) aP) aG))))))
    (aQ (bE fJ))
    bZ)))
   (aO (bG 3 (fun _=>sc__law_is_ring.nd) (cO (AK (fun _=>rfl)) (by sleep 988) A1q (aD (bU dF (aC 1) aP) aG)))
   (aO (cX (pY (jU (bV (EL (fun _=>rfl) (fun _=>a.units)) (aS (qY (fun _=>rfl)) (by sleep 988) A0v (aD (aC 3) aG)) (rK (bB (fun _=>sG T) a.le (aD (aC 0) (aD (bU dF (aC 1) aP) aG))))) (kG (bV aIH (bU dF (aC 3) aP) (bU dF (aC 3) (QV OV aP))))))
    (aQ (bE fJ))
    bZ)
   (aO (bG 4 (fun _=>sc__law_is_ring.nd) (lE aG))
   (aO (dX (fun _=>F6) (fun _=>rfl) (bQ (fun _=>rfl) (aC 3)) (aR 2 (fun _=>sc__law_is_ring.nd))
    (aQ (bG 4 (fun _=>sc__law_is_ring.nd) (bP iD (aC 4) (cO (AK (fun _=>rfl)) (by sleep 988) A1q (aD (bU dF (aC 0) (aC 2)) aG))))))
   (aQ (bE (iS (HB (fun _=>rfl) (fun _=>a.units)) (aS (qY (fun _=>rfl)) (by sleep 988) A0v (aD (aC 4) aG)) (cO (AK (fun _=>rfl)) (by sleep 988) A1q (aD (bU dF (aC 0) (bU dF (aC 1) aP)) aG)))))))))))
def wB(T:Txt K mg):Callee P w K mg base 4 "_law_is_chart" kD (spM K fL):=
 T.v63.okG (N:=pV) (ps:=kD) (k:=3) (b:=dY) sc__law_is_chart (by sleep 992) fun f cdv A outer s H E a=>
  (aO (cX (pY (jU (dE (cU (bB (fun _=>eV T) a.le (aD (aC 1) aG)))) (jU (bV (EL (fun _=>rfl) (fun _=>a.units)) (aS dG (by sleep 988) O0 (aD (aC 1) aG)) aP) (jU (dE (cU (bB (fun _=>tZ T) a.le (aD (aC 0) (aD (bU dF (aC 1) aP) aG))))) (kG (dE (cU (bB (fun _=>eV T) a.le (aD (bU dF (aC 1) aP) aG)))))))))
   (aQ (bE fJ))
   bZ)
   (aO (uY 2 (fun _=>sc__law_is_chart.nd) (N':=(["_law_link"]:Te)) (cap:=[Y]) (fun _=>rfl) (by sleep 987) (bQ (fun _=>rfl) (bU dF (aC 1) aP)) (aR 0 (by sleep 989)) cM (cO (gH (fun _=>rfl)) (by sleep 988) S6 (aD (aC 0) aG)))
   (aO (bG 3 (fun _=>sc__law_is_chart.nd) aP)
   (aO (dX (fun _=>F6) (fun _=>rfl) (bQ (fun _=>rfl) (bU dF (aC 1) aP)) (aR 4 (fun _=>sc__law_is_chart.nd))
    (aO (cX (pY (jU (dE (cU (bB (fun _=>xY T) a.le (aD (aC 2) (aD (aC 4) aG))))) (kG (bV JJ (bU dF (aC 4) aP) (aC 3)))))
    (aQ (bE fJ))
    bZ)
   (aQ (bG 3 (fun _=>sc__law_is_chart.nd) (bP iD (bU dF (aC 4) aP) aP)))))
   (aQ (bE fJ))))))
def fn_law(T:Txt K mg):∃f fd,mg "law"=Z (.ref f)/\(∀(s:Uc)(u:Ua),BindsTo s fd ⟨[u],[]⟩ [("_law_script",u)])/\∀base,mY P w K mg base CX0 9 f fd VE (spM K F_law):=
 T.v64.okLG (N:=aEv) (k:=8) (b:=aEr) sc_law rfl (by sleep 991) fun base f cdv A outer s H E a=>
  (aO (bG 1 (fun _=>sc_law.nd) (bB (fun _=>DV T) a.le (aD (aC 0) (aD aP aG))))
   (aO (cX (bV (EL (fun _=>rfl) (fun _=>a.units)) (DR (fun _=>lI T) a.le (aD aP (aD (cH (aD (cH (aD (cH (aD aP aG)) aG)) (aD (cH aG) aG))) aG))) (cH (aD (cH (aD aP aG)) aG)))
    (aQ (bE fJ))
    bZ)
   (aO (dX (fun _=>F6) (fun _=>rfl) (lA (by sleep 988) (aD aP aG)) (aR 2 (fun _=>sc_law.nd))
    (aO (bG 3 (fun _=>sc_law.nd) (bP iD aP (bP kP (tE (fun _=>rfl) (aC 1)) aP)))
   (aO (bG 4 (fun _=>sc_law.nd) (bB (fun _=>CA T) a.le (aD (aC 1) (aD (aC 3) aG))))
   (aO (bG 5 (fun _=>sc_law.nd) (bB (fun _=>nO T 6) a.le (aD (aC 4) aG)))
   (aO (bG 6 (fun _=>sc_law.nd) (bB (fun _=>ED T) a.le (aD (aC 4) aG)))
   (aO (dX (fun _=>F6) (fun _=>rfl) (bQ (fun _=>rfl) (lE (aD (aC 4) (aD (aC 5) aG)))) (aR 7 (fun _=>sc_law.nd))
    (aO (bG 8 (fun _=>sc_law.nd) (DR (fun _=>lI T) a.le (aD (aC 3) (aD (aC 7) aG))))
   (aO (cX (pY (jU (dE (cU (tF (T:="tuple") (fun _=>rfl) (by decide) (aC 8) (fun _=>cK) (by sleep 988) (by sleep 988) S6))) (kG (bV (EL (fun _=>rfl) (fun _=>a.units)) (aC 8) (aC 6)))))
    (aQ (bE fJ))
    bZ)
   (aQ (cX (dE (cU (aS (vJ (fun _=>rfl) (fun _=>rfl)) (by sleep 988) boot_all (aD (gN (N':=(["_law_side"]:Te)) (cap:=[Y]) (fun _=>rfl) (by sleep 987) (bQ (fun _=>rfl) (aC 8)) (aR 0 (by sleep 989)) cM (tF (T:="tuple") (fun _=>rfl) (by decide) (aC 0) (fun _=>cK) (by sleep 988) (by sleep 988) S6)) aG))))
    (aQ (bE fJ))
    bZ)))))
   (aO (uY 9 (fun _=>sc_law.nd) (N':=(["_law_due","_law_at","_law_side"]:Te)) (cap:=[Z 6,Y,Y]) (fun _=>rfl) (by sleep 987) (yF (fun _=>rfl) (by sleep 988) (aD (aC 6) aG)) (oR (fun _=>rfl) (fun _=>rfl) (bX (aR 1 (by sleep 989)) (bX (aR 2 (by sleep 989)) gZ))) (BG (bV (FJ (fun _=>rfl) (fun _=>a.units1)) (aC 2) (pS (fun _=>rfl) (aC 0) kR (eR (aC 1))))) (aC 2))
   (aO (cX (pY (jU (bV (EL (fun _=>rfl) (fun _=>a.units)) (aC 5) (bB (fun _=>nO T 6) a.le (aD (aC 4) aG))) (kG (bV (EL (fun _=>rfl) (fun _=>a.units)) (aS dG (by sleep 988) O0 (aD (aC 6) aG)) (aS dG (by sleep 988) O0 (aD (aC 9) aG))))))
    (aQ (bE fJ))
    bZ)
   (aO (zF (aC 4) (oR (fun _=>rfl) (fun _=>rfl) (bX (aR 10 (fun _=>sc_law.nd)) (bX (aR 11 (fun _=>sc_law.nd)) gZ))))
   (aO (bG 12 (fun _=>sc_law.nd) (hW (aD (cH (aD (bP iD (aC 10) (pS (fun _=>rfl) (aC 10) kR (eR aP))) (aD (aC 11) aG))) (aD (cH (aD (aFl (fun _=>rfl) (aC 10) (eR (QV OV aP))) (aD (aC 11) aG))) (aD (cH (aD (aC 10) (aD (bP iD (aC 11) (pS (fun _=>rfl) (aC 11) kR (eR aP))) aG))) aG)))))
   (aO (gG (fM (fun _=>rfl) (aC 12) (aD (cH (aD (aC 10) (aD (cH (aD (cH (aD aP (aD (cH (aD aP (aD aP (aD aP aG)))) aG))) aG)) aG))) aG)))
   (aO (bG 12 (fun _=>sc_law.nd) (bP iD (aC 12) (lE (aD (cH (aD (aC 10) aG)) (aD YC (aD aP (aD aGo (aD aAF (aD (cH (aD (aC 10) (aD YC aG))) aG)))))))))
   (aO (bG 12 (fun _=>sc_law.nd) (bP iD (aC 12) (lE (aD (cH (aD (cH (aD (cH (aD aP (aD aP aG))) aG)) (aD (cH aG) aG))) (aD (cH (aD (cH (aD (cH (aD (aC 3) aG)) aG)) (aD (cH aG) aG))) (aD (cH (aD (cH (aD (cH aG) aG)) (aD (cH aG) aG))) aG))))))
   (aQ (dX (fun _=>F6) (fun _=>rfl) (lA (by sleep 988) (aD aP aG)) (aR 13 (fun _=>sc_law.nd))
    (aO (bG 14 (fun _=>sc_law.nd) (bU dF (aC 12) (bP kP (tE (fun _=>rfl) (aC 1)) aP)))
   (aQ (cX (pY (vN (dE (cU (bB (fun _=>wB T) a.le (aD (aC 3) (aD (aC 14) aG))))) (rV (dE (cU (bB (fun _=>xT T) a.le (aD (aC 3) (aD (aC 14) aG))))))))
    (aQ (bE fJ))
    bZ))))))))))))))))))
   (aQ (bE fJ)))))
def fn_law2(T:Txt K mg):(∃f fd,mg "law"=Z (.ref f)/\(∀(s:Uc)(u:Ua),BindsTo s fd ⟨[u],[]⟩ [("_law_script",u)])/\∀base,mY P w K mg base CX0 9 f fd VE (spM K F_law))/\∃TT a st,pN K TT a/\K.lookup TT=Y/\Def K mg "straight_within" st/\wO K "straight_within"=true:=⟨fn_law T,T.ot.elim fun TT h=>⟨TT,_,_,h.1,h.2,T.v36,T.ctb⟩⟩
def txt_mk(X:K.In h)(G:h.Ns mainGlobals mg)(t:W.nsIn K mainGlobals "ValueError"=Z Y)(u:W.nsIn K mainGlobals "all"=Z Y)(v:W.nsIn K mainGlobals "any"=Z Y)(x:W.nsIn K mainGlobals "bool"=Z Y)(y:W.nsIn K mainGlobals "enumerate"=Z Y)(z:W.nsIn K mainGlobals "int"=Z Y)(A:W.nsIn K mainGlobals "isinstance"=Z Y)(B:W.nsIn K mainGlobals "len"=Z Y)(C:W.nsIn K mainGlobals "list"=Z Y)(D:W.nsIn K mainGlobals "min"=Z Y)(e:W.nsIn K mainGlobals "range"=Z Y)(f:W.nsIn K mainGlobals "sorted"=Z Y)(g:W.nsIn K mainGlobals "sum"=Z Y)(i:W.nsIn K mainGlobals "tuple"=Z Y)(j:W.nsIn K mainGlobals "zip"=Z Y)(c:W.nsIn K mainGlobals "NoChart"=Z (Z (.ref a)))(v16:W.excIn K a bmV "ValueError.__new__"=true)(v17:W.exmOne K (.ref a) (.ref a)=Z true)(k:W.findIn K (.ref a) "__getattribute__"=Z (Z (.builtin "BaseException.__getattribute__")))(l:W.findIn K (.ref a) "__getattr__"=Z Y)(m:W.subIn K (.ref a) (.type "BaseException")=Z true)(n:(W.clsIn K a).isSome=true)(o:W.findIn K (.ref a) "__class__"=Z (Z (.builtin "object.__class__")))(p:W.specialIn K (.builtin "object.__class__") "__get__"=Z (Z (.builtin "getset_descriptor.__get__")))(q:W.takesIn K (.builtin "object.__class__")=Z true)(r:W.mroIn K a (.type "object")=Z true)(v26:IL K (.type "ValueError") gS=true)(v27:W.kitOne K (.type "NoneType") (.type "ValueError")=Z false)(d:W.nsIn K mainGlobals "CutError"=Z (Z (.ref b)))(v29:IL K (.ref b) jT=true)(v30:W.kitOne K (.type "NoneType") (.ref b)=Z false)(v31:Def K mg "_law_deck" pA)(v32:Def K mg "is_whole" qV)(v33:Def K mg "is_place" qP)(v34:Def K mg "is_row" wK)(v35:Def K mg "is_row_of" pF)(v36:Def K mg "straight_within" fH)(v37:Def K mg "bits" FU)(v38:Def K mg "is_ring" tG)(v39:Def K mg "is_rising" oW)(v40:Def K mg "are_rings" pB)(v41:Def K mg "are_rising_places" fX)(v42:Def K mg "is_link" tV)(v43:Def K mg "is_crossed" nB)(v44:Def K mg "any_cross" pR)(v45:Def K mg "are_links" pM)(v46:Def K mg "is_chart" rJ)(v47:Def K mg "joined" vR)(v48:Def K mg "ring_sides" mV)(v49:Def K mg "chart_sides" mB)(v50:Def K mg "_law_parted" lK)(v51:Def K mg "_law_holds" mZ)(v52:Def K mg "_law_inner" nN)(v53:Def K mg "_law_chart" mT)(v54:Def K mg "_law_lists" nL)(v55:Def K mg "_law_told" oO)(v56:Def K mg "_law_refused" kB)(v57:Def K mg "_law_is_row" lS)(v58:Def K mg "_law_is_whole" iX)(v59:Def K mg "_law_is_far" lX)(v60:Def K mg "_law_crosses" kL)(v61:Def K mg "_law_are_links" iO)(v62:Def K mg "_law_is_ring" kM)(v63:Def K mg "_law_is_chart" jG)(v64:Def K mg "law" KZ)(s:GX K (("straight_within":Str)++(".<locals>.":Str)++("<lambda>":Str))=true)(ctb:wO K "straight_within"=true):Txt K mg:=by
 cases PQ c;cases PQ d;exact⟨(cV (I0 X G t) (cV (I0 X G u) (cV (I0 X G v) (cV (I0 X G x) (cV (I0 X G y) (cV (I0 X G z) (cV (I0 X G A) (cV (I0 X G B) (cV (I0 X G C) (cV (I0 X G D) (cV (I0 X G e) (cV (I0 X G f) (cV (I0 X G g) (cV (I0 X G i) (cV (I0 X G j) aAL))))))))))))))),W.mg_of X G c,v16,v17,⟨⟨k,l,m,n⟩,o,p,q,r⟩,v26,v27,W.mg_of X G d,v29,v30,v31,v32,v33,v34,v35,v36,v37,v38,v39,v40,v41,v42,v43,v44,v45,v46,v47,v48,v49,v50,v51,v52,v53,v54,v55,v56,v57,v58,v59,v60,v61,v62,v63,v64,SM s,ctb⟩
end
end Q44
end
end
section
namespace Q44
variable{L M M' M0 M3:Sto}{γ γ1:Ga}{c f' i j j' k k' l' lk m r v w:Nat}{J n p z:Int}{d o:Ub}{e f:EF}{a b h l ns os ps:T9}{ds rows ys:T6}{xs:T8}{s x y:CD}{g:GF}{fa fi:AF}{g10 g11 g12 g13 g14 g2 g3 g4 g5 g6 g7 g8 g9:Th}
open PySem PySem.Spec PyProof.Rows L2
local macro_rules | `(tactic| simp! [$a,*]) => `(tactic| simp only [fnF, fnX, CU, SX, aHV, BA, aIA, KN, aAf, aIB, liA, liE, liS, EG, LO, NL, aHn, ZQ, setG, KH, oY, aZ, sIf, cD, aIt, bR, bD, eZ, hName, kE, bI, gW, hSub, gOr, jR, cB, gB, LB, aEH, aH, aA, aE, aB, fC, fOp, fUn, eS, fOr, GA, fIf, BB, asB, cT, hX, dS, iU, wM, HV, pI, ifS, aIL, wH, IG, lH, fT, aJd, ltI, leI, gtI, geI, Option.bind_some, Option.bind_none, Option.map_some, List.getElem?_cons_zero, List.getElem?_cons_succ, List.length_cons, List.length_nil, List.set_cons_zero, List.set_cons_succ, List.map_cons, List.map_nil, List.replicate_zero, List.replicate_succ, List.cons_append, List.nil_append, List.append_nil, if_true, ite_true, ite_false, Nat.reduceAdd, Nat.reduceSub, reduceIte, Bool.not_true, Bool.not_false, Bool.false_eq_true, $a,*])
noncomputable def IM:Ub->Bool
 |.int _=>true
 |_=>false
noncomputable def FK:Ub->Bool
 |.list _=>true
 |.tuple _=>true
 |_=>false
def BI(x:Ub)(M:Sto):tJ [.d x] M=Z (.d (.bool (IM x)),M):=by cases x<;>rfl
def uX(x:Ub)(M:Sto):fZ [.d x] M=Z (.d (.bool (FK x)),M):=by cases x<;>rfl
def LH(d:Ub)(n:Int):Bool:=match aJ d with
 |some ds=>((ds.length:Int)==n)
 |none=>false
def xE(x:Ub)(n:Int)(M:Sto):fW [.d x,.d (.int n)] M=Z (.d (.bool (LH x n)),M):=by cases x<;>rfl
noncomputable abbrev I(n:Int):CD:=.d (.int n)
noncomputable abbrev B(b:Bool):CD:=.d (.bool b)
def mH{x y:Int}(h:0<y):rG x y=true:=by simp[rG,h]
def KI{i j:Int}:eqX false (I i) (I j) M=Z (B (i==j),M):=rfl
def aGF{i j:Int}:eqX true (I i) (I j) M=Z (B (!(i==j)),M):=rfl
def aEb{i j:Int}:eF (I i) (I j) M=Z (I (i+j),M):=rfl
def wsm{y:Int}(h:0<=y)(t:y<2 ^ 200):y.natAbs<AJ:=by
 have q:y.natAbs<2 ^ 200:=by omega
 exact C4 q (Nat.pow_le_pow_right (by decide) (by decide))
def EB{x y:Int}(h:0<y)(q:y.natAbs<AJ):zL x y=true:=by simp[zL,h,q]
def sz{n:Nat}(hn:n<=1000):n<=sizeLine:=by rw[S7];exact O7 hn (by decide)
noncomputable def plc(n:Int):Ub->Bool
 |.int i=>decide (0<=i)&&decide (i<n)
 |_=>false
def tQ(n:Int)(p:Ub)(M:Sto):cR [I n,.d p] M=Z (B (plc n p),M):=by
 cases q:IM p with
 |false=>
  have e:plc n p=false:=by cases p<;>first|rfl|cases q
  rw[e];simp![cR,oQ,BI,q]
 |true=>
  obtain⟨i,rfl⟩:∃i,p=.int i:=by cases p<;>first|exact⟨_,rfl⟩|cases q
  have t:plc n (.int i)=(decide (0<=i)&&decide (i<n)):=rfl;rw[t];cases u:decide (0<=i)<;>simp![cR,oQ,BI,q,u,Bool.true_and,Bool.false_and]
def aBT{p:Ub}(h:plc n p=true):∃i,p=.int i/\0<=i/\i<n:=by
 cases p with
 |int i=>simp only[plc,Bool.and_eq_true,decide_eq_true_eq]at h;exact⟨i,rfl,h.1,h.2⟩
 |_=>cases h
def aV{f g:SF}(h:f γ M=Z (.nx q,M')):aZ f g γ M=g q M':=by simp only[aZ,h,Option.bind_some]
def lU{f g:SF}(h:f γ M=Z (.rt x,M')):aZ f g γ M=Z (.rt x,M'):=by simp only[aZ,h,Option.bind_some]
def bJ(h:f γ M=Z (x,M')):bD f (hName i) γ M=Z (.nx (γ.set i (Z x)),M'):=by simp only[bD,hName,h,Option.bind_some]
def eG{ps N:Nat}{b:SF}(h:xs.length=ps)(q:b (xs.map Z++List.replicate (N-xs.length) Y) M=Z (.rt x,M')):fnF ps N b xs M=Z (x,M'):=by simp only[fnF,if_pos h,q,Option.bind_some]
def cW{f:AF}{b:SF}{M1:Sto}{r:Tz (Out×Sto)}(h:f γ M=Z (xs,M1))(q:hV g b xs γ M1=r):gV f g b γ M=r:=by simp only[gV,h,Option.bind_some,q]
def dP{b:SF}{M1 M2:Sto}(h:g x γ M=Z (γ1,M1))(t:b γ1 M1=Z (.nx q,M2)):hV g b (x::xs) γ M=hV g b xs q M2:=by
 conv=>lhs;unfold hV
 rw[h,A2];dsimp only;rw[t];rfl
def aF{g:AF}{M1 M2:Sto}(q:f γ M=Z (x,M1))(t:g γ M1=Z (xs,M2)):aA f g γ M=Z (x::xs,M2):=by simp only[aA,q,t,Option.bind_some]
def aI:aE γ M=Z ([],M):=rfl
def aK{F:FN}{M1 M2:Sto}(ha:fa γ M=Z (xs,M1))(h:F xs M1=Z (y,M2)):aH F fa γ M=Z (y,M2):=by simp only[aH,ha,Option.bind_some,h]
def aX{k:F2}{g:EF}{M1 M2:Sto}{a b c:CD}(q:f γ M=Z (a,M1))(t:g γ M1=Z (b,M2))(h:k a b M2=Z (c,M3)):fOp k f g γ M=Z (c,M3):=by simp only[fOp,q,t,Option.bind_some,h]
def bM{M1:Sto}{b:Bool}(h:f γ M=Z (B b,M1)):gB f γ M=Z (b,M1):=by
 unfold gB;rw[h];rfl
def iP{c:TF}{a b:SF}(h:c γ M=Z (true,M')):sIf c a b γ M=a γ M':=by simp only[sIf,h,Option.bind_some,if_true]
def fR{c:TF}{a b:SF}(h:c γ M=Z (false,M')):sIf c a b γ M=b γ M':=by simp only[sIf,h,Option.bind_some,Bool.false_eq_true,if_false]
def aJh{i:Int}:fC (.int i) γ M=Z (I i,M):=rfl
def gE{c:Cell}:(M++[c])[M.length]?=Z c:=by rw[F5 (B4 _),A0h];rfl
def ET{c:Cell}:(M++[c]).set M.length c'=M++[c']:=by
 rw[List.set_append_right _ _ (B4 _),A0h];rfl
noncomputable def lw(lo hi:Int):Ub->Bool
 |.int i=>decide (lo<=i)&&decide (i<=hi)
 |_=>false
def aIQ(p:Ub)(lo hi:Int)(M:Sto):dC [.d p,I lo,I hi] M=Z (B (lw lo hi p),M):=by
 cases p with
 |int i=>
  have q:lw lo hi (.int i)=(decide (lo<=i)&&decide (i<=hi)):=rfl;have t:tO "int" (.int i)=true:=rfl;have u:tO "bool" (.int i)=false:=rfl;rw[q];cases A:decide (lo<=i)<;>simp![dC,kC,t,u,A,Bool.true_and,Bool.false_and]
 |_=>rfl
def aFb{lo:Int}{p:Ub}(h:lw lo hi p=true):∃i,p=.int i/\lo<=i/\i<=hi:=by
 cases p with
 |int i=>
  have h:(decide (lo<=i)&&decide (i<=hi))=true:=h;rw[B8]at h;exact⟨i,rfl,D9 h.1,D9 h.2⟩
 |_=>cases h
def fG{r:Ub}(h:aJ r=Z ds)(M:Sto):bN [.d r] M=Z (I ds.length,M):=by
 cases r<;>first|(cases h;rfl)|cases h
def aAl{r:Ub}(h:FK r=true):∃ds,aJ r=Z ds:=by
 cases r<;>first|exact⟨_,rfl⟩|cases h
abbrev Inn(n:Nat)(p:Int):Prop:=0<=p/\p<n
def iR{q:Type}{xs:Tx q}{x:q}(h:xs[k]?=Z x):atI xs (k:Int)=Z x:=by
 have t:k<xs.length:=(List.getElem?_eq_some_iff.mp h).1;unfold atI ixN;rw[A4 (A1m k),A4 (by omega),A2,E3,h]
def aCc{q:Type}(ds:Tx q)(lo hi:To):(fU ds lo hi).length<=ds.length:=by
 unfold fU;rw[Y3,A0g];omega
def sl_tup{lo:To}:slF (.d (.tuple ds)) lo hi M=Z (.d (.tuple (fU ds lo hi)),M):=rfl
def aBR{xs:T6}(q:xs.length+ys.length<=1000):eF (.d (.tuple xs)) (.d (.tuple ys)) M=Z (.d (.tuple (xs++ys)),M):=by
 cases xs with
 |nil=>rfl
 |cons x xs=>
  have h:(x::xs:T6)≠[]/\(x::xs).length+ys.length<=sizeLine:=⟨by simp,sz q⟩;show(if (x::xs:T6)≠[]/\(x::xs).length+ys.length<=sizeLine then Z (CD.d (.tuple (x::xs++ys)),M)else Y)=_;rw[A4 h]
def OY{u:Type}{ds:Tx u}{k m:Int}(hm:0<m)(B:(ds.length:Int)=m):∃d,atI ds (k % m)=Z d/\d∈ds:=by
 have C:=Z8 k (show m≠0 by omega);have D:=Z5 k hm;have t:(k % m).toNat<ds.length:=by omega
 obtain⟨q,A⟩:∃q:Nat,k % m=(q:Nat):=⟨(k % m).toNat,by omega⟩;rw[A]at t ⊢;rw[E3]at t;exact⟨ds[q],iR (B1 t),S9 t⟩
abbrev cI(xs:T9):Cell:=.lst (xs.map fun i=>I i)
def Li(M:Sto)(c:Nat)(xs:T9):Prop:=M[c]?=Z (cI xs)
structure Oth(c:Nat)(M M':Sto):Prop where
 len:M'.length=M.length
 at_:∀i,i≠c->M'[i]?=M[i]?
def Li.lt{xs:T9}(h:Li M c xs):c<M.length:=(List.getElem?_eq_some_iff.mp h).1
def Li.set{xs ys:T9}(h:Li M c xs):Li (M.set c (cI ys)) c ys/\Oth c M (M.set c (cI ys)):=
 ⟨by unfold Li;rw[E2 h.lt],by rw[U2],fun i hi=>by rw[D5 (U3 hi)]⟩
def Li.oth{d:Nat}{xs:T9}(h:Li M c xs)(o:Oth d M M')(ne:c≠d):Li M' c xs:=by unfold Li;rw[o.at_ c ne];exact h
def Li.app{xs:T9}(h:Li M c xs):Li (M++L) c xs:=by unfold Li;rw[E6 h.lt];exact h
def Li.ty{xs:T9}(h:Li M c xs):tyB "list" M (.c c)=true:=by
 unfold Li at h;simp only[tyB,h];decide
def Li.ln{xs:T9}(h:Li M c xs):bN [.c c] M=Z (I xs.length,M):=by
 unfold Li at h;simp only[bN,h,List.length_map]
def aIN{u:Type}{xs:Tx u}(h:Inn xs.length p):∃z,atI xs p=Z z/\z∈xs:=by
 obtain⟨q,rfl⟩:∃q:Nat,p=(q:Nat):=⟨p.toNat,by omega⟩;have t:q<xs.length:=by omega
 exact⟨xs[q],iR (B1 t),S9 t⟩
def Li.ix{xs:T9}(h:Li M c xs)(q:Inn xs.length p):∃z,ixF (.c c) (I p) M=Z (I z,M):=by
 obtain⟨z,t,u⟩:=aIN (xs:=xs.map fun i=>I i) (p:=p) (by rw[A0];exact q);obtain⟨y,_,rfl⟩:=List.mem_map.mp u;refine⟨y,?_⟩;unfold Li at h;simp only[ixF,h,t,Option.bind_some]
def Li.put{xs:T9}(h:Li M c xs)(t:Inn xs.length p):∃ys,ys.length=xs.length/\EY (.c c) (I p) (I z) M=Z (M.set c (cI ys)):=by
 obtain⟨q,rfl⟩:∃q:Nat,p=(q:Nat):=⟨p.toNat,by omega⟩;refine⟨xs.set q z,by rw[U2],?_⟩
 have hn:ixN (xs.map fun i=>I i).length (q:Int)=Z q:=by
  unfold ixN;rw[A4 (A1m q),A4 (by rw[A0];omega),E3]
 unfold Li at h;simp only[EY,h,hn,Option.bind_some,cI,List.map_set]
def Li.push{xs:T9}(h:Li M c xs)(q:xs.length<1000):bW (.c c) [I z] M=Z (.d .none,M.set c (cI (xs++[z]))):=by
 have l:(xs.map fun i=>I i).length<sizeLine:=by rw[A0,S7];omega
 unfold Li at h;simp only[bW,h,if_pos l,cI,List.map_append,List.map_singleton]
def Li.pop{xs:T9}(h:Li M c (xs++[z])):iI (.c c) [] M=Z (I z,M.set c (cI xs)):=by
 have q:((xs++[z]).map fun i=>I i)[((xs++[z]).map fun i=>I i).length-1]?=Z (I z):=by
  rw[A0,A6,E7,Nat.add_sub_cancel,D6,F5 (B4 _),A0h];rfl
 have t:((xs++[z]).map fun i=>I i).dropLast=xs.map fun i=>I i:=by
  rw[F7,List.map_singleton,List.dropLast_concat]
 unfold Li at h;simp only[iI,h,q,t,Option.bind_some]
def Rn(x:Int):Prop:=0<=x/\x<2147483647
def aBg{y b:Int}(h:0<b)(q:b<=2147483647):Rn (y % b):=⟨Z8 _ (by omega),Int.lt_of_lt_of_le (Z5 _ h) q⟩
def Dk(M:Sto)(c m:Nat):Prop:=∃xs,Li M c xs/\m<=xs.length/\∀x∈xs,Rn x
def Dk.app(h:Dk M c m):Dk (M++L) c m:=let⟨xs,a,b⟩:=h;⟨xs,a.app,b⟩
def Dk.pop(h:Dk M c (m+1)):∃z M',iI (.c c) [] M=Z (I z,M')/\Dk M' c m/\Oth c M M'/\Rn z:=by
 obtain⟨xs,a,b,r⟩:=h;rcases List.eq_nil_or_concat xs with rfl|⟨ys,z,rfl⟩
 .simp at b
 .rw[List.concat_eq_append]at a b r;rw[A6,E7]at b;exact⟨z,_,a.pop,⟨ys,(a.set).1,by omega,fun x q=>r x (D4 _ q)⟩,(a.set).2,r z (by simp)⟩
def Dk.ty(h:Dk M c m):tyB "list" M (.c c)=true:=let⟨_,a,_⟩:=h;a.ty
def IZ(lo:Int)(n:Nat):iE lo (n+1)=I lo::iE (lo+1) n:=by
 unfold iE;rw[List.range_succ_eq_map,B6,B9];refine congr (C9 List.cons ?_) (Z2 fun k _=>?_)
 .show CD.d (.int (lo+((0:Nat):Int)))=I lo;rw[show lo+((0:Nat):Int)=lo by omega]
 .show CD.d (.int (lo+((k+1:Nat):Int)))=.d (.int (lo+1+(k:Nat)));rw[show lo+((k+1:Nat):Int)=lo+1+(k:Nat)by omega]
def aBh{i j:Int}(h:i.natAbs<2 ^ 64):pT i j=true:=by unfold pT;rw[C7 h];rfl
def mul_r{i j:Int}(h:j.natAbs<2 ^ 64):pT i j=true:=by unfold pT;rw[C7 h,Bool.or_true];rfl
def nab{b:Int}(q:0<=z)(t:z<b)(u:b<=2 ^ 62):z.natAbs<2 ^ 64:=by omega
abbrev GD(s many:CD)(r d:Nat)(o:Int)(k at_ one:Th):Ga:=[Z s,Z many,Z (.c r),Z (I o),Z (.c d),k,at_,one]
def TH{s:CD}{d:Nat}{o k:Int}{xs ds:T9}{g6 g7:Th}(B:Li M r xs)(hd:Li M d ds)(ne:r≠d)(x0:0<xs.length)(R:ds.length<1000)(k0:0<=k)(k1:k<1000)(T:∀x∈ds,Rn x):
 ∃C u G H M',fN (GD s many r d o (Z (I k)) g6 g7) M=Z (.nx (GD s many r d o (Z (I k)) G H),M')/\Li M' r C/\Li M' d u/\C.length=xs.length/\u.length=ds.length+1/\∀x∈u,Rn x:=by
 have t:∀y,Rn y->∀x∈ds++[y],Rn x:=fun y U x V=>by
  rcases List.mem_append.mp V with h|h
  .exact T x h
  .rw[List.mem_singleton.mp h];exact U
 have ln:=B.ln;have K:=Z8 k (show(xs.length:Int)≠0 by omega);have N:=Z5 k (show(0:Int)<xs.length by omega);obtain⟨z,ix⟩:=B.ix (p:=k % xs.length) ⟨K,N⟩;have O:rG k xs.length=true:=mH (by omega);have S:∀y,rG y 1000000=true:=fun y=>mH (by decide);have W:∀y,rG y 2147483629=true:=fun y=>mH (by decide);have X:∀y,rG y 2147483647=true:=fun y=>mH (by decide);have m5:∀y,rG y 4=true:=fun y=>mH (by decide);have dv:∀y,zL y 1000000=true:=fun y=>EB (by decide) (wsm (by decide) (by decide));obtain⟨ys,yl,st⟩:=B.put (p:=k % xs.length) (z:=z / 1000000) ⟨K,N⟩;generalize (xs.length:Int)=J at ln K N ix O st;cases h:(o==0)with
 |true=>
  obtain⟨c,hc,D⟩:=OY (ds:=([.int 48271,.int 69621,.int 39373,.int 40692]:T6)) (k:=k) (m:=4) (by decide) rfl
  obtain⟨A,rfl,P⟩:∃v:Int,c=.int v/\v.natAbs<2 ^ 64:=by
   simp only[List.mem_cons,List.not_mem_nil,or_false]at D;rcases D with rfl|rfl|rfl|rfl<;>exact⟨_,rfl,by decide⟩
  have xk:ixF (.d (.list [.int 48271,.int 69621,.int 39373,.int 40692])) (I (k % 4)) M=Z (I A,M):=by
   show(atI [PyData.int 48271,.int 69621,.int 39373,.int 40692] (k % 4)).bind _=_;rw[hc];rfl
  have q1:pT k k=true:=aBh (nab k0 (b:=1000) k1 (by decide));have q2:pT (k*k) 16807=true:=mul_r (by decide);have q3:pT 3 k=true:=aBh (by decide);have q4:∀y,pT y A=true:=fun y=>mul_r P;have a1:∀i j:Int,eF (I i) (I j) M=Z (I (i+j),M):=fun i j=>rfl;have q5:∀y,pT (y % 2147483647) (y % 2147483647)=true:=fun y=>aBh (nab (Z8 _ (by decide)) (Z5 _ (by decide)) (by decide));generalize hv:(z+k*k*16807+3*k) % 2147483629=F;have Q:=fun y=>hd.push (z:=y) R;refine⟨xs,ds++[(F*A+7) % 2147483647*((F*A+7) % 2147483647) % 2147483629],Z (I (k % J)),Z (I ((F*A+7) % 2147483647*((F*A+7) % 2147483647) % 2147483629)),_,?_,B.oth (hd.set).2 ne,(hd.set).1,rfl,by rw[A6,E7],t _ (aBg (by decide) (by decide))⟩;simp![fN,ln,O,S,ix,KI,h,q1,q2,q3,a1,W,hv,yU,m5,xk,q4,X,q5,bL,hd.ty,Q]
 |false=>
  have E:=B.set (ys:=ys);have q:=hd.oth E.2 (U3 ne);have Q:=q.push (z:=z % 1000000) R;refine⟨ys,ds++[z % 1000000],Z (I (k % J)),Z (I (z % 1000000)),_,?_,E.1.oth (q.set).2 ne,(q.set).1,yl,by rw[A6,E7],t _ (aBg (by decide) (by decide))⟩;simp![fN,ln,O,S,ix,KI,h,dv,st,bL,q.ty,Q]
def CM{s:CD}{r d:Nat}{o:Int}:∀(m:Nat)(k:Int)(M:Sto)(xs ds:T9)(g5 g6 g7:Th),Li M r xs->Li M d ds->r≠d->0<xs.length->0<=k->k+m<900->ds.length+m<900->(∀x∈ds,Rn x)->
 ∃q u A B M',hV (hName 5) fN (iE k m) (GD s many r d o g5 g6 g7) M=Z (.nx (GD s many r d o u A B),M')/\Li M' d q/\q.length=ds.length+m/\∀x∈q,Rn x
 |0=>fun k M xs ds g5 g6 g7 F hd ne G k0 _ _ C=>⟨ds,g5,g6,g7,M,rfl,hd,rfl,C⟩
 |m+1=>fun k M xs ds g5 g6 g7 F hd ne G k0 V W C=>by
  obtain⟨D,E,H,K,M1,t,N,O,X,h4,P⟩:=TH (s:=s) (many:=many) (o:=o) (g6:=g6) (g7:=g7) F hd ne G (by omega) k0 (show k<1000 by omega) C;obtain⟨q,Q,R,S,M',l,T,h6,U⟩:=CM (s:=s) (many:=many) (o:=o) m (k+1) M1 D E (Z (I k)) H K N O ne (by omega) (by omega) (by omega) (by omega) P;refine⟨q,Q,R,S,M',?_,T,by omega,U⟩;rw[IZ,dP (show hName 5 (I k) (GD s many r d o g5 g6 g7) M=Z (GD s many r d o (Z (I k)) g6 g7,M)from rfl) t];exact l
def pE(n:Nat)(M:Sto):∀ns:T9,jW n M (ns.map fun i=>I i)=Z (ns.map .int)
 |[]=>by unfold jW;rfl
 |i::ns=>by
  rw[B6];unfold jW;rw[vP,A2,pE n M ns];rfl
def mS:∀ns:T9,PyData.canLayAll0 (ns.map .int)=true
 |[]=>rfl
 |n::ns=>by show(true&&PyData.canLayAll0 (ns.map .int))=true;rw[mS ns];rfl
def oP:∀ns:T9,PyData.depthAll (ns.map .int)=0
 |[]=>rfl
 |n::ns=>by show max 0 (PyData.depthAll (ns.map .int))=0;rw[oP ns];rfl
def nR(ns:T9):SeqAt.shaped (.list (ns.map .int))=true:=by
 unfold SeqAt.shaped;have q:PyData.canLay0 (.list (ns.map .int))=true:=mS ns;have t:PyData.depth (.list (ns.map .int))=1:=by show PyData.depthAll (ns.map .int)+1=1;rw[oP]
 rw[q,t];rfl
def aCo(h:Li M c ns):eqY false (.c c) (.d (.list [])) M=Z (B ns.isEmpty,M):=by
 have s1:snap 5 M (.c c)=Z (.list (ns.map .int)):=by
  unfold Li at h;unfold snap;rw[h];show(jW 4 M (ns.map fun i=>I i)).bind _=_;rw[pE];rfl
 have s2:snap 5 M (.d (.list []))=Z (.list []):=by rw[vP]
 show eqC false (.c c) (.d (.list [])) M=_;unfold eqC;rw[s1,A2,s2,A2,nR,show SeqAt.shaped (.list [])=true from rfl];cases ns<;>rfl
def aIs(sm:cC J=true):fS (aA (aB 1) aE) (x::Z (I J)::γ) M=Z (iE 0 J.toNat,M):=by
 simp![fS,sm]
def aEQ(ns:T9):∃c M,mF [.d (.list (ns.map .int)),I 440] []=Z (.c c,M)/\Dk M c 440:=by
 have A:(0:Nat)<=sizeLine:=E9 _;have s1:(1:Nat)<=sizeLine:=by decide
 have st:∀(r:Nat)(M:Sto)(xs:T9),Li M r xs->0<xs.length->∃c M',(aZ (bD (fOp fT (fOp ixF (aB 2) (fC (.int 0))) (fC (.int 2))) (hName 3))
 (aZ (bD (fOp lH (fOp ixF (aB 2) (fC (.int 0))) (fC (.int 2))) (hSub (aB 2) (fC (.int 0)) EY))
 (aZ (bD (dS aE) (hName 4))
 (aZ (gV (fS (aA (aB 1) aE)) (hName 5) fN)
 (aZ (eZ (bL "list" fI (aB 4) aE))
 (cD (aB 4))))))) [Z (.d (.list (ns.map .int))),Z (I 440),Z (.c r),Y,Y,Y,Y,Y] M=Z (.rt (.c c),M')/\Dk M' c 440:=by
  intro r M xs t x0;obtain⟨z,ix⟩:=t.ix (p:=0) ⟨by decide,by omega⟩;have O:∀y,rG y 2=true:=fun y=>mH (by decide);have P:∀y,zL y 2=true:=fun y=>EB (by decide) (wsm (by decide) (by decide));obtain⟨ys,yl,pt⟩:=t.put (p:=0) (z:=z / 2) ⟨by decide,by omega⟩;have B:=(t.set (ys:=ys)).1;have C:=B.app (L:=[Cell.lst []]);have K:(M.set r (cI ys)).length=M.length:=by rw[U2]
  have hd:Li (M.set r (cI ys)++[Cell.lst []]) M.length []:=by
   unfold Li;rw[<- K,F5 (B4 _),A0h];rfl
  have rl:=t.lt;obtain⟨ds,a5,a6,a7,M',Q,q,R,S⟩:=CM (s:=.d (.list (ns.map .int))) (many:=I 440) (o:=z % 2) 440 0 _ ys [] Y Y Y C hd (by omega) (by omega) (by decide) (by decide) (by decide) (fun x D=>by simp at D);have rg:fS (aA (aB 1) aE) (GD (.d (.list (ns.map .int))) (I 440) r M.length (z % 2) Y Y Y) (M.set r (cI ys)++[Cell.lst []])=Z (iE 0 440,M.set r (cI ys)++[Cell.lst []]):=aIs (J:=440) (by decide);have T:=cW rg Q
  have U:fI (.c M.length) [] M'=Z (.d .none,M'.set M.length (cI ds.reverse)):=by
   have:=q;unfold Li at this;simp only[fI,this];rw[cI,List.map_reverse]
  refine⟨M.length,M'.set M.length (cI ds.reverse),?_,ds.reverse,(q.set).1,by rw[Y1,R];exact B4 _,fun x D=>S x (List.mem_reverse.mp D)⟩
  have V:bD (fOp fT (fOp ixF (aB 2) (fC (.int 0))) (fC (.int 2))) (hName 3) [Z (.d (.list (ns.map .int))),Z (I 440),Z (.c r),Y,Y,Y,Y,Y] M=Z (.nx [Z (.d (.list (ns.map .int))),Z (I 440),Z (.c r),Z (I (z % 2)),Y,Y,Y,Y],M):=by
   simp![ix,O]
  have W:bD (fOp lH (fOp ixF (aB 2) (fC (.int 0))) (fC (.int 2))) (hSub (aB 2) (fC (.int 0)) EY) [Z (.d (.list (ns.map .int))),Z (I 440),Z (.c r),Z (I (z % 2)),Y,Y,Y,Y] M=Z (.nx [Z (.d (.list (ns.map .int))),Z (I 440),Z (.c r),Z (I (z % 2)),Y,Y,Y,Y],M.set r (cI ys)):=by
   simp![ix,P,pt]
  have X:bD (dS aE) (hName 4) [Z (.d (.list (ns.map .int))),Z (I 440),Z (.c r),Z (I (z % 2)),Y,Y,Y,Y] (M.set r (cI ys))=Z (.nx (GD (.d (.list (ns.map .int))) (I 440) r M.length (z % 2) Y Y Y),M.set r (cI ys)++[Cell.lst []]):=by
   simp![A,K]
  rw[aV V,aV W,aV X,aV T];simp![bL,q.ty,U]
 have l0:CL [.d (.list (ns.map .int))] []=Z (.c 0,[cI ns]):=by
  show Z (CD.c 0,[]++[Cell.lst ((ns.map PyData.int).map .d)])=_;rw[B9];rfl
 have h0:Li [cI ns] 0 ns:=rfl;have u:=aCo h0
 have N:bD (aH CL (aA (aB 0) aE)) (hName 2) [Z (.d (.list (ns.map .int))),Z (I 440),Y,Y,Y,Y,Y,Y] []=Z (.nx [Z (.d (.list (ns.map .int))),Z (I 440),Z (.c 0),Y,Y,Y,Y,Y],[cI ns]):=by
  simp![l0]
 cases E:ns.isEmpty with
 |true=>
  rw[E]at u;obtain⟨c,M',F,G⟩:=st 1 ([cI ns]++[cI [4]]) [4] rfl (by decide);refine⟨c,M',eG rfl ?_,G⟩
  have H:sIf (gB (fOp (eqY false) (aB 2) (hX aE))) (bD (dS (aA (fC (.int 4)) aE)) (hName 2)) bR [Z (.d (.list (ns.map .int))),Z (I 440),Z (.c 0),Y,Y,Y,Y,Y] [cI ns]=Z (.nx [Z (.d (.list (ns.map .int))),Z (I 440),Z (.c 1),Y,Y,Y,Y,Y],[cI ns]++[cI [4]]):=by
   simp![A,s1,u];rfl
  unfold mR;show aZ _ _ [Z (.d (.list (ns.map .int))),Z (I 440),Y,Y,Y,Y,Y,Y] []=_;rw[aV N,aV H];exact F
 |false=>
  rw[E]at u;obtain⟨c,M',F,G⟩:=st 0 [cI ns] ns rfl (by cases ns with|nil=>cases E|cons _ _=>simp);refine⟨c,M',eG rfl ?_,G⟩
  have H:sIf (gB (fOp (eqY false) (aB 2) (hX aE))) (bD (dS (aA (fC (.int 4)) aE)) (hName 2)) bR [Z (.d (.list (ns.map .int))),Z (I 440),Z (.c 0),Y,Y,Y,Y,Y] [cI ns]=Z (.nx [Z (.d (.list (ns.map .int))),Z (I 440),Z (.c 0),Y,Y,Y,Y,Y],[cI ns]):=by
   simp![A,s1,u]
  unfold mR;show aZ _ _ [Z (.d (.list (ns.map .int))),Z (I 440),Y,Y,Y,Y,Y,Y] []=_;rw[aV N,aV H];exact F
def eA:∀ds:T6,iU (ds.map .d)=Z ds
 |[]=>rfl
 |d::ds=>by
  show(iU (ds.map .d)).map (d::·)=_;rw[eA ds];rfl
def aEz{f:AF}{c:TF}{M1 M2:Sto}(it:f γ M=Z (xs,M1))(t:xs.length<=sizeLine)(e:lcF g c q xs (jS cap γ) M1=Z (ds.map .d,M2))(hd:ds.length<=sizeLine):fLc cap f g c q γ M=Z (.d (.list ds),M2):=by
 have u:xB cap f g c q γ M=Z (ds.map .d,M2):=by
  unfold xB;rw[it,A2,A4 t];exact e
 show(xB cap f g c q γ M).bind _=_;rw[u,A2,eA,A2,A4 hd]
structure Ex(c:Nat)(M M':Sto):Prop where
 len:M.length<=M'.length
 at_:∀i,i<M.length->i≠c->M'[i]?=M[i]?
def Ex.to{x:Cell}(e:Ex c M M')(h:M[i]?=Z x)(n:i≠c):M'[i]?=Z x:=by rw[e.at_ i (List.getElem?_eq_some_iff.mp h).1 n];exact h
def Ex.put{x:Cell}(e:Ex c M M')(h:M.length<=j):Ex c M (M'.set j x):=⟨by rw[U2];exact e.len,fun i hi n=>by rw[D5 (by omega)];exact e.at_ i hi n⟩
def Dk.le{n:Nat}(h:Dk M c m)(l:n<=m):Dk M c n:=let⟨xs,a,b,r⟩:=h;⟨xs,a,O7 l b,r⟩
def Dk.lt(h:Dk M c m):c<M.length:=let⟨_,a,_⟩:=h;a.lt
def Dk.put{x:Cell}(h:Dk M c m)(n:j≠c):Dk (M.set j x) c m:=let⟨xs,a,b⟩:=h;⟨xs,by unfold Li;rw[D5 n];exact a,b⟩
def pop_at(q:γ[v]?=Z (Z (.c c)))(ty:tyB "list" M (.c c)=true)(h:iI (.c c) [] M=Z (I z,M')):bL "list" iI (aB v) aE γ M=Z (I z,M'):=by
 simp only[bL,aB,q,aE,Option.bind_some,ty,if_true,h]
def rO{g:GF}{b:SF}{n:Nat}{Inv:Nat->Ga->Sto->Prop}(step:∀k,k<n->∀γ M,Inv k γ M->∃γ1 q M',g (I (k:Nat)) γ M=Z (γ1,M)/\b γ1 M=Z (.nx q,M')/\Inv (k+1) q M'):
 ∀(m k:Nat)(γ:Ga)(M:Sto),k+m=n->Inv k γ M->∃q M',hV g b (iE (k:Nat) m) γ M=Z (.nx q,M')/\Inv n q M'
 |0=>fun k γ M h i=>⟨γ,M,rfl,by rw[<- h];exact i⟩
 |m+1=>fun k γ M h i=>by
  obtain⟨γ1,t,M1,u,A,i1⟩:=step k (by omega) γ M i;obtain⟨q,M',B,i2⟩:=rO step m (k+1) t M1 (by omega) i1;refine⟨q,M',?_,i2⟩;rw[IZ,dP u A,show((k:Nat):Int)+1=((k+1:Nat):Int)by omega];exact B
def wF(h:fa γ M=Z ([I J],M))(sm:cC J=true):fS fa γ M=Z (iE 0 J.toNat,M):=by
 simp only[fS,h,Option.bind_some,sm,if_true]
def PK{i j:Int}(h:fa γ M=Z ([I i,I j],M))(s1:cC i=true)(s2:cC j=true):CT fa γ M=Z (iE i (j-i).toNat,M):=by
 simp only[CT,h,Option.bind_some];rw[A4 ⟨s1,s2⟩]
def mP{i:Int}(q:-1000<=i)(t:i<=1000):cC i=true:=by
 unfold cC;rw[B8];exact⟨C7 (by omega),C7 (by omega)⟩
def FF{f:AF}{c:TF}{M1 M2:Sto}{ys:T8}(it:f γ M=Z (xs,M1))(q:xs.length<=1000)(l:lcF g c e xs (jS cap γ) M1=Z (ys,M2))(t:ys.length<=1000):EJ cap f g c e γ M=Z (.c M2.length,M2++[.lst ys]):=by
 unfold EJ dS xB;rw[it,A2,A4 (sz q),l,A2,A4 (sz t)]
def iY{f:AF}{c:TF}{M1 M2:Sto}(it:f γ M=Z (xs,M1))(q:xs.length<=1000)(l:lcF g c e xs (jS cap γ) M1=Z (ds.map .d,M2))(t:ds.length<=1000):fLc cap f g c e γ M=Z (.d (.list ds),M2):=aEz it (sz q) l (sz t)
abbrev Up(l:T9):Prop:=l.Pairwise (·<·)
abbrev Sb(a b:T9):Prop:=∀x∈a,x∈b
abbrev Ds(a b:List Int):Prop:=∀x∈a,x∉b
abbrev Nn(a:T9):Prop:=∀x∈a,0<=x
def Lm(a b:T9):Prop:=Sb a b\/Sb b a\/Ds a b
def Lm.symm(h:Lm a b):Lm b a:=by
 rcases h with h|h|h
 .exact .inr (.inl h)
 .exact .inl h
 .exact .inr (.inr fun x q t=>h x t q)
def sF(h:Up a):a.Nodup:=h.imp fun q=>by omega
def WT(ha:Up a)(t:Up b)(h:∀x,x∈a↔x∈b):a=b:=
 List.Perm.eq_of_pairwise (le:=(·<·)) (fun x y _ _ p q=>by omega) ha t ((A1n (sF ha) (sF t)).mpr h)
def QW(q:b.Nodup)(s:Sb b a)(u:a.length<=b.length):Sb a b:=fun x t=>by
 apply Decidable.byContradiction
 intro hn
 have:=U6 (l₁:=x::b) (l₂:=a) (List.nodup_cons.mpr ⟨hn,q⟩) (fun y hy=>by
  rcases List.mem_cons.mp hy with rfl|hy
  .exact t
  .exact s y hy)
 rw[L7]at this;omega
noncomputable def bn(l:T9):Nat:=(l.map fun p=>2 ^ p.toNat).sum
def WV:∀(l:T9)(k:Nat),(∀p∈l,(k:Int)<=p)->∃m,bn l=2 ^ k*m
 |[]=>fun k _=>⟨0,rfl⟩
 |p::l=>fun k h=>by
  obtain⟨m,hm⟩:=WV l k fun q t=>h q (B0 _ t);have u:=h p A9;refine⟨2 ^ (p.toNat-k)+m,?_⟩;have e:p.toNat=k+(p.toNat-k):=by omega
  show 2 ^ p.toNat+bn l=_;rw[hm,Nat.mul_add,<- Nat.pow_add,<- e]
def jE:∀{l:T9},Up l->Nn l->∀i:Nat,(bn l).testBit i=decide ((i:Int)∈l)
 |[]=>fun _ _ i=>by simp[bn]
 |p::l=>fun A hn i=>by
  have t:=List.pairwise_cons.mp A;have E:=hn p A9;have ih:=jE t.2 (fun x B=>hn x (B0 _ B)) i;obtain⟨m,hm⟩:=WV l (p.toNat+1) fun q C=>by have:=t.1 q C;omega
  have e:bn (p::l)=bn l ||| 2 ^ p.toNat:=by
   show 2 ^ p.toNat+bn l=_;rw[hm,Nat.add_comm,Nat.two_pow_add_eq_or_of_lt (Nat.pow_lt_pow_right (by decide) (by omega))]
  rw[e,Nat.testBit_or,ih,Nat.testBit_two_pow];by_cases u:(i:Int)=p
  .subst u;simp
  .have D:¬p.toNat=i:=by omega
   simp[u,D]
def yH(A:Up a)(B:Up b)(t:Nn a)(C:Nn b):(bn a &&& bn b)=bn a↔Sb a b:=by
 constructor
 .intro h x D;have u:=t x D;have E:=C9 (fun n=>n.testBit x.toNat) h;simp only[Nat.testBit_and,jE A t,jE B C,Int.toNat_of_nonneg u,D,decide_true,Bool.true_and]at E;exact D9 E
 .intro h;refine Nat.eq_of_testBit_eq fun i=>?_;rw[Nat.testBit_and,jE A t,jE B C];by_cases q:(i:Int)∈a
  .simp[q,h _ q]
  .simp[q]
def aCa(A:Up a)(B:Up b)(t:Nn a)(C:Nn b):(bn a &&& bn b)=0↔Ds a b:=by
 constructor
 .intro h x D E;have u:=t x D;have F:=C9 (fun n=>n.testBit x.toNat) h;simp[Nat.testBit_and,jE A t,jE B C,Int.toNat_of_nonneg u,D,E]at F
 .intro h;refine Nat.eq_of_testBit_eq fun i=>?_;rw[Nat.testBit_and,jE A t,jE B C,Nat.zero_testBit];by_cases q:(i:Int)∈a
  .simp[q,h _ q]
  .simp[q]
def VU(u:Up a)(A:Up b)(B:Nn a)(C:Nn b)(h:bn a=bn b):a=b:=by
 refine WT u A fun x=>?_;constructor
 .intro q;have t:=C9 (fun n=>n.testBit x.toNat) h;simp only[jE u B,jE A C,Int.toNat_of_nonneg (B x q),q,decide_true]at t;exact D9 t.symm
 .intro q;have t:=C9 (fun n=>n.testBit x.toNat) h;simp only[jE u B,jE A C,Int.toNat_of_nonneg (C x q),q,decide_true]at t;exact D9 t
def aDJ(q:Up a)(t:Up b)(u:Nn a)(A:Nn b)(h:Sb a b):bn a<=bn b:=by
 rw[<- (yH q t u A).mpr h];exact Nat.and_le_right
noncomputable def hold(a b:T9):Bool:=decide (b.length<a.length)&&b.all fun x=>decide (x∈a)
def fK(B:Up a)(A:Up b):hold a b=true↔Sb b a/\a≠b:=by
 unfold hold;rw[B8,E5,Z3];constructor
 .intro ⟨q,t⟩;exact⟨fun x u=>D9 (t x u),fun e=>by rw[e]at q;omega⟩
 .intro ⟨q,t⟩;refine⟨?_,fun x u=>C7 (q x u)⟩
  apply Nat.lt_of_not_le
  intro C;exact t (WT B A fun x=>⟨QW (sF A) q C x,q x⟩)
noncomputable def crs(a b:T9):Bool:=!(a.filter fun x=>decide (x∈b)).isEmpty&&(decide ((a.filter fun x=>decide (x∈b)).length<a.length)&&decide ((a.filter fun x=>decide (x∈b)).length<b.length))
def OH(u:Up a)(A:Up b):crs a b=true↔¬Lm a b:=by
 have len:(a.filter fun x=>decide (x∈b)).length=(b.filter fun x=>decide (x∈a)).length:=by
  refine List.Perm.length_eq ((A1n ((sF u).filter _) ((sF A).filter _)).mpr fun x=>?_);simp only[List.mem_filter,decide_eq_true_eq];exact And.comm
 have l1:∀{a b:T9},(a.filter fun x=>decide (x∈b)).length<a.length↔¬Sb a b:=fun{a b}=>by
  rw[<- Decidable.not_iff_not,Decidable.not_not];constructor
  .intro h x t;have e:(a.filter fun x=>decide (x∈b)).length=a.length:=Nat.le_antisymm (O6 _ _) (by omega);exact D9 (List.length_filter_eq_length_iff.mp e x t)
  .intro h;rw[List.length_filter_eq_length_iff.mpr fun x t=>C7 (h x t)];omega
 have l2:(a.filter fun x=>decide (x∈b)).isEmpty=true↔Ds a b:=by
  rw[List.isEmpty_iff,List.filter_eq_nil_iff];simp
 unfold crs;rw[B8,B8,E5,E5,l1,len,l1,A0b,<- Bool.not_eq_true,l2];constructor
 .intro ⟨B,C,D⟩ h;rcases h with h|h|h
  .exact C h
  .exact D h
  .exact B h
 .intro h;exact⟨fun q=>h (.inr (.inr q)),fun q=>h (.inl q),fun q=>h (.inr (.inl q))⟩
structure Fam(ls:T0):Prop where
 up:∀l∈ls,Up l
 ne:∀l∈ls,l≠[]
 nn:∀l∈ls,Nn l
 lam:∀a∈ls,∀b∈ls,Lm a b
 nd:ls.Nodup
noncomputable abbrev la(ls:T0)(k:Nat):T9:=ls.getD k []
def bS{ls:T0}(h:k<ls.length):la ls k∈ls:=by
 rw[la,A8,B1 h];exact S9 h
def PL{ls:T0}(h:l∈ls):∃k,k<ls.length/\la ls k=l:=by
 obtain⟨k,q,e⟩:=List.getElem_of_mem h;refine⟨k,q,?_⟩;rw[la,A8,B1 q];exact e
def vZ{ls:T0}(nd:ls.Nodup)(hi:i<ls.length)(q:j<ls.length)(e:la ls i=la ls j):i=j:=by
 rw[la,la,A8,A8,B1 hi,B1 q]at e;exact(List.getElem_inj nd).mp e
def inB(ls:T0)(k j:Nat):Bool:=hold (la ls k) (la ls j)&&!(ls.any fun l=>hold (la ls k) l&&hold l (la ls j))
def inn(ls:T0)(k:Nat):Tg:=(List.range ls.length).filter (inB ls k)
def arB(ls:T0)(j k:Nat):Bool:=decide (k≠j)&&decide ((bn (la ls j) &&& bn (la ls k))=bn (la ls j))
def arr(ls:T0)(j:Nat):Tg:=(List.range ls.length).filter (arB ls j)
def eH(h:j∈inn ls k):j<ls.length:=List.mem_range.mp (List.mem_filter.mp h).1
def uL(F:Fam ls)(A:j<ls.length)(B:k<ls.length):arB ls j k=hold (la ls k) (la ls j):=by
 have q:=bS A;have mk:=bS B;rw[S0,fK (F.up _ mk) (F.up _ q)];unfold arB;rw[B8,E5,E5,yH (F.up _ q) (F.up _ mk) (F.nn _ q) (F.nn _ mk)];constructor
 .intro ⟨t,u⟩;exact⟨u,fun e=>t (vZ F.nd B A e)⟩
 .intro ⟨t,u⟩;exact⟨fun e=>u (by rw[e]),t⟩
def inB_any:inB ls k j=true↔hold (la ls k) (la ls j)=true/\∀l∈ls,hold (la ls k) l=true->hold l (la ls j)=true->False:=by
 unfold inB;rw[B8,A0b,List.any_eq_false];constructor
 .intro ⟨t,u⟩;exact⟨t,fun l A a b=>u l A (by rw[a,b];rfl)⟩
 .intro ⟨t,u⟩;refine⟨t,fun l A q=>?_⟩;rw[B8]at q;exact u l A q.1 q.2
def MQ(F:Fam ls){j:Nat}(E:j<ls.length)(G:k<ls.length)(hm:m∈arr ls j)(t:∀x∈arr ls j,bn (la ls m)<=bn (la ls x)):m=k↔inB ls k j=true:=by
 have A:m<ls.length:=List.mem_range.mp (List.mem_filter.mp hm).1;have B:hold (la ls m) (la ls j)=true:=by rw[<- uL F E A];exact(List.mem_filter.mp hm).2
 have I:=bS E;have q:=bS A;have mk:=bS G;rw[inB_any];constructor
 .intro e;subst e;refine⟨B,fun l u H K=>?_⟩;obtain⟨x,C,rfl⟩:=PL u;have N:x∈arr ls j:=List.mem_filter.mpr ⟨List.mem_range.mpr C,by rw[uL F E C];exact K⟩;have l1:=t x N;obtain⟨s,n⟩:=(fK (F.up _ q) (F.up _ u)).mp H;have l2:=aDJ (F.up _ u) (F.up _ q) (F.nn _ u) (F.nn _ q) s;exact n (VU (F.up _ q) (F.up _ u) (F.nn _ q) (F.nn _ u) (by omega))
 .intro ⟨H,K⟩;have O:k∈arr ls j:=List.mem_filter.mpr ⟨List.mem_range.mpr G,by rw[uL F E G];exact H⟩;have l1:=t k O
  apply Decidable.byContradiction
  intro ne;have D:la ls m≠la ls k:=fun e=>ne (vZ F.nd A G e);rcases F.lam _ q _ mk with h|h|h
  .exact K _ q ((fK (F.up _ mk) (F.up _ q)).mpr ⟨h,fun e=>D e.symm⟩) B
  .have l2:=aDJ (F.up _ mk) (F.up _ q) (F.nn _ mk) (F.nn _ q) h;exact D (VU (F.up _ q) (F.up _ mk) (F.nn _ q) (F.nn _ mk) (by omega))
  .have P:=F.ne _ I;cases u:la ls j with
   |nil=>exact P u
   |cons x r=>
    have C:x∈la ls j:=by rw[u];exact A9
    exact h x (((fK (F.up _ q) (F.up _ I)).mp B).1 x C) (((fK (F.up _ mk) (F.up _ I)).mp H).1 x C)
def FO(F:Fam ls)(hi:i∈inn ls k)(q:j∈inn ls k)(ne:i≠j):Ds (la ls i) (la ls j):=by
 have li:=eH hi;have B:=eH q;have u:=bS li;have A:=bS B;have hi:=inB_any.mp (List.mem_filter.mp hi).2;have q:=inB_any.mp (List.mem_filter.mp q).2;have t:la ls i≠la ls j:=fun e=>ne (vZ F.nd li B e);rcases F.lam _ u _ A with h|h|h
 .exact(hi.2 _ A q.1 ((fK (F.up _ A) (F.up _ u)).mpr ⟨h,fun e=>t e.symm⟩)).elim
 .exact(q.2 _ u hi.1 ((fK (F.up _ u) (F.up _ A)).mpr ⟨h,t⟩)).elim
 .exact h
def cat(ls:T0)(os:Tg):T9:=os.flatMap (la ls)
def aBa(F:Fam ls){os:Tg}(nd:os.Nodup)(h:∀j∈os,j∈inn ls k):(cat ls os).Nodup:=by
 unfold cat;refine List.pairwise_flatMap.mpr ⟨fun j q=>sF (F.up _ (bS (eH (h j q)))),?_⟩;refine A0m (fun{i j} hi q ne x t y u e=>?_) nd;subst e;exact FO F (h i hi) (h j q) ne x t u
def GO(ls:T0)(os:Tg):(cat ls os).length=(os.map fun j=>(la ls j).length).sum:=List.length_flatMap
def aCe(F:Fam ls)(B:k<ls.length){os:Tg}(nd:os.Nodup)(h:∀j∈os,j∈inn ls k):(cat ls os).length=(la ls k).length↔dW (cat ls os)=la ls k:=by
 have mk:=bS B;have u:=aBa F nd h
 have sb:Sb (cat ls os) (la ls k):=fun x t=>by
  obtain⟨j,A,t⟩:=List.mem_flatMap.mp t;have hi:=inB_any.mp (List.mem_filter.mp (h j A)).2;exact((fK (F.up _ mk) (F.up _ (bS (eH (h j A))))).mp hi.1).1 x t
 constructor
 .intro C;have bk:=QW u sb (by omega);refine nU (lB _) ((F.up _ mk).imp fun q=>by omega) ((eL _).trans ?_);exact(A1n u (sF (F.up _ mk))).mpr fun x=>⟨sb x,bk x⟩
 .intro e;rw[<- e,(eL _).length_eq]
noncomputable def pd(P:Prop):Bool:=@decide P (Classical.propDecidable P)
def pd_iff{P:Prop}:pd P=true↔P:=by unfold pd;exact @decide_eq_true_iff P (Classical.propDecidable P)
def kJ{P:Prop}(h:P):pd P=true:=pd_iff.mpr h
def fV{P:Prop}(h:¬P):pd P=false:=by
 cases q:pd P with
 |false=>rfl
 |true=>exact absurd (pd_iff.mp q) h
def fY{b:Bool}{P:Prop}(h:b=true↔P):b=pd P:=Bool.eq_iff_iff.mpr (h.trans pd_iff.symm)
def cA{P Q:Prop}(h:P↔Q):pd P=pd Q:=fY (pd_iff.trans h)
def bpd{b:Bool}{P:Prop}(h:b=true↔P):B b=B (pd P):=by rw[fY h]
def tK{g:EF}{P:Prop}(h:f γ M=Z (B (pd P),M))(t:P->g γ M=Z (B (pd Q),M)):eS f g γ M=Z (B (pd (P/\Q)),M):=by
 unfold eS;rw[h,A2];dsimp only[asB];rw[A2];rcases F4 P with p|p
 .rw[kJ p,A4 rfl,t p,cA (show Q↔P/\Q from⟨fun q=>⟨p,q⟩,fun q=>q.2⟩)]
 .rw[fV p,B2 A7,fV fun q=>p q.1]
def zE{c d:TF}{P:Prop}(h:c γ M=Z (pd P,M))(hd:¬P->d γ M=Z (pd Q,M)):gOr c d γ M=Z (pd (P\/Q),M):=by
 unfold gOr;rw[h,A2];rcases F4 P with p|p
 .rw[kJ p,A4 rfl,kJ (.inl p)]
 .rw[fV p,B2 A7,hd p,cA (show Q↔P\/Q from⟨fun q=>.inr q,fun q=>q.elim (fun z=>absurd z p) id⟩)]
def aBK{c d:TF}{P:Prop}(h:c γ M=Z (pd P,M))(hd:P->d γ M=Z (pd Q,M)):jR c d γ M=Z (pd (P/\Q),M):=by
 unfold jR;rw[h,A2];rcases F4 P with p|p
 .rw[kJ p,A4 rfl,hd p,cA (show Q↔P/\Q from⟨fun q=>⟨p,q⟩,fun q=>q.2⟩)]
 .rw[fV p,B2 A7,fV fun q=>p q.1]
def aAw{P:Prop}:(!pd P)=pd ¬P:=by
 rcases F4 P with p|p
 .rw[kJ p,fV fun q=>q p];rfl
 .rw[fV p,kJ p];rfl
def eQ{c:TF}{P:Prop}(h:c γ M=Z (pd P,M)):cB c γ M=Z (pd (¬P),M):=by
 unfold cB;rw[h,A2,aAw]
def aBO{P:Prop}(h:f γ M=Z (B (pd P),M)):GA f γ M=Z (B (pd (¬P)),M):=by
 unfold GA;rw[h,A2];dsimp only[asB];rw[A2,aAw]
def fF(h:f γ M=Z (x,M')):cD f γ M=Z (.rt x,M'):=by
 unfold cD;rw[h,A2]
def kZ{c:TF}{r:SF}{P:Prop}(h:c γ M=Z (pd P,M))(p:P):aZ (sIf c (cD (fC (.bool false))) bR) r γ M=Z (.rt (B false),M):=by
 rw[kJ p]at h;exact lU (by rw[iP h];rfl)
def lD{c:TF}{r:SF}{P:Prop}(h:c γ M=Z (pd P,M))(p:¬P):aZ (sIf c (cD (fC (.bool false))) bR) r γ M=r γ M:=by
 rw[fV p]at h;exact aV (by rw[fR h];rfl)
def vQ{q:Type}{f:q->Bool}:∀ds:Tx q,boolsOf (ds.map fun d=>.bool (f d))=Z (ds.map f)
 |[]=>rfl
 |d::ds=>by show(boolsOf (ds.map fun d=>.bool (f d))).bind _=_;rw[vQ ds];rfl
def all_map'{q:Type}{f:q->Bool}{ds:Tx q}:kT [.d (.list (ds.map fun d=>.bool (f d)))] M=Z (B (ds.all f),M):=by
 show(boolsOf (ds.map fun d=>.bool (f d))).bind _=_;rw[vQ,A2,List.all_map];rfl
def any_map'{q:Type}{f:q->Bool}{ds:Tx q}:anyF [.d (.list (ds.map fun d=>.bool (f d)))] M=Z (B (ds.any f),M):=by
 show(boolsOf (ds.map fun d=>.bool (f d))).bind _=_;rw[vQ,A2,List.any_map];rfl
def fA(h:f γ M=Z (.d d,M'))(e:aJ d=Z ds):aY f γ M=Z (ds.map .d,M'):=by
 simp only[aY,h,Option.bind_some,e]
def LG{t:Type}{i:Nat}{c:TF}{e:EF}{γ0:Ga}{M:Sto}(f:t->CD)(p:t->Bool)(h:t->Ub):∀(xs:Tx t)(γ:Ga),(∀y,γ.set i y=γ0.set i y)->(∀x∈xs,c (γ0.set i (Z (f x))) M=Z (p x,M)/\(p x=true->e (γ0.set i (Z (f x))) M=Z (.d (h x),M)))->lcF (hName i) c e (xs.map f) γ M=Z (((xs.filter p).map h).map .d,M)
 |[]=>fun γ _ _=>rfl
 |x::xs=>fun γ u A=>by
  obtain⟨B,C⟩:=A x A9;have ih:=LG (c:=c) (e:=e) (M:=M) f p h xs (γ0.set i (Z (f x))) (fun y=>List.set_set ..) (fun y D=>A y (B0 _ D));rw[B6];unfold lcF;rw[show hName i (f x) γ M=Z (γ0.set i (Z (f x)),M)by unfold hName;rw[u],A2];dsimp only;rw[B,A2];dsimp only;cases q:p x with
  |false=>rw[B2 (by decide),ih,U9 (by rw[q];decide)]
  |true=>
   rw[A4 rfl,C q,A2];dsimp only;rw[ih,Y0 q];rfl
def nS{q:Type}{γ0:Ga}(f:q->CD)(h:q->Ub)(xs:Tx q)(t:∀x∈xs,e (γ0.set i (Z (f x))) M=Z (.d (h x),M)):lcF (hName i) cF e (xs.map f) γ0 M=Z ((xs.map h).map .d,M):=by
 have:=LG (i:=i) (c:=cF) (e:=e) (γ0:=γ0) (M:=M) f (fun _=>true) h xs γ0 (fun _=>rfl) fun x u=>⟨rfl,fun _=>t x u⟩
 rwa [List.filter_eq_self.mpr fun _ _=>rfl]at this
def zU{ds:T6}{P:Ub->Prop}(t:f γ M=Z (.d d,M))(hd:aJ d=Z ds)(A:ds.length<=900)(u:∀x∈ds,e ((jS cap γ).set i (Z (.d x))) M=Z (B (pd (P x)),M)):
 aH kT (aA (fLc cap (aY f) (hName i) cF e) aE) γ M=Z (B (pd (∀x∈ds,P x)),M):=by
 have l:=iY (cap:=cap) (fA t hd) (by rw[A0];omega) (nS (γ0:=jS cap γ) CD.d (fun x=>.bool (pd (P x))) ds u) (by rw[A0];omega);refine aK (aF l aI) ?_;rw[all_map',bpd (P:=∀x∈ds,P x)];rw[Z3];exact⟨fun h x q=>pd_iff.mp (h x q),fun h x q=>pd_iff.mpr (h x q)⟩
def vT{ds:T6}{h:Ub->Ub}(q:f γ M=Z (.d d,M))(hd:aJ d=Z ds)(u:ds.length<=900)(t:∀x∈ds,e ((jS cap γ).set i (Z (.d x))) M=Z (.d (h x),M)):
 fLc cap (aY f) (hName i) cF e γ M=Z (.d (.list (ds.map h)),M):=
 iY (cap:=cap) (fA q hd) (by rw[A0];omega) (nS (γ0:=jS cap γ) CD.d h ds t) (by rw[A0];omega)
def dB(d:Ub):Tz (T9):=(aJ d).bind cN
def GN{q t:Type}(f:q->Tz t):Tx q->Tz (Tx t)
 |[]=>Z []
 |x::xs=>(f x).bind fun y=>(GN f xs).bind fun ys=>Z (y::ys)
def allO_iff{u A:Type}{f:u->Tz A}:∀{xs:Tx u}{ys:Tx A},GN f xs=Z ys↔xs.map f=ys.map Z
 |[],ys=>by cases ys<;>simp[GN]
 |x::xs,ys=>by
  cases ys with
  |nil=>
   constructor
   .intro h;obtain⟨y,_,h⟩:=Option.bind_eq_some_iff.mp h;obtain⟨z,_,h⟩:=Option.bind_eq_some_iff.mp h;cases h
   .intro h;cases h
  |cons y ys=>
   rw[B6,B6,S3,<- allO_iff (xs:=xs)];constructor
   .intro h;obtain⟨y,q,h⟩:=Option.bind_eq_some_iff.mp h;obtain⟨z,t,h⟩:=Option.bind_eq_some_iff.mp h;cases h;exact⟨q,t⟩
   .intro ⟨q,t⟩;show(f x).bind _=_;rw[q,A2,t];rfl
def A1g:∀ns:T9,cN (ns.map .int)=Z ns
 |[]=>rfl
 |n::ns=>by show(cN (ns.map .int)).bind _=_;rw[A1g ns];rfl
def PD:∀{ds:T6}{ns:T9},cN ds=Z ns->ds=ns.map .int
 |[],ns=>fun h=>by cases h;rfl
 |d::ds,ns=>fun h=>by
  cases d with
  |int i=>
   obtain⟨ms,q,t⟩:=Option.bind_eq_some_iff.mp (show(cN ds).bind (fun ns=>Z (i::ns))=Z ns from h);cases t;rw[PD q];rfl
  |_=>cases h
def ints_iff:cN ds=Z ns↔ds=ns.map .int:=⟨PD,fun h=>by rw[h];exact A1g ns⟩
def rowI_iff:dB d=Z ns↔aJ d=Z (ns.map .int):=by
 unfold dB;rw[Option.bind_eq_some_iff];constructor
 .intro ⟨ds,q,t⟩;rw[q,ints_iff.mp t]
 .intro h;exact⟨_,h,A1g ns⟩
structure LkP(n:Int)(ns:T9):Prop where
 up:Up ns
 ne:ns≠[]
 io:∀p∈ns,1<=p/\p<n
noncomputable def adj{q:Type}(lt:q->q->Bool):Tx q->Tx Bool
 |a::b::r=>lt a b::adj lt (b::r)
 |_=>[]
def NP{q:Type}{lt:q->q->Bool}(tr:∀a b c,lt a b=true->lt b c=true->lt a c=true):∀l:Tx q,(adj lt l).all id=true↔l.Pairwise fun a b=>lt a b=true
 |[]=>by simp[adj]
 |[a]=>by simp[adj]
 |a::b::r=>by
  have ih:=NP tr (b::r);show(lt a b&&(adj lt (b::r)).all id)=true↔_;rw[B8,ih];constructor
  .intro h;refine List.pairwise_cons.mpr ⟨fun x hx=>?_,h.2⟩;rcases List.mem_cons.mp hx with rfl|hx
   .exact h.1
   .exact tr _ _ _ h.1 ((List.pairwise_cons.mp h.2).1 x hx)
  .intro h;exact⟨(List.pairwise_cons.mp h).1 b A9,(List.pairwise_cons.mp h).2⟩
def NW{q:Type}{lt:q->q->Bool}:∀l:Tx q,(adj lt l).length<=l.length
 |[]=>B4 _
 |[_]=>E9 _
 |a::b::r=>by have:=NW (lt:=lt) (b::r);simp only[adj,List.length_cons]at this ⊢;omega
def XD{t:Type}{f:t->Ub}{lt:t->t->Bool}{M:Sto}(h:∀a b,ltX (.d (f a)) (.d (f b)) M=Z (B (lt a b),M)):∀(l:Tx t)(γ:Ga),(∃a b,γ=[a,b])->lcF (kE 2 (bI (hName 0) (bI (hName 1) gW))) cF (fOp ltX (aB 0) (aB 1)) (nE (l.map f) ((l.map f).drop 1)) γ M=Z (((adj lt l).map fun b=>PyData.bool b).map .d,M)
 |[]=>fun _ _=>rfl
 |[_]=>fun _ _=>rfl
 |a::b::r=>fun γ u=>by
  obtain⟨x,y,rfl⟩:=u;have ih:=XD h (b::r) [Z (.d (f a)),Z (.d (f b))] ⟨_,_,rfl⟩;show((ltX (.d (f a)) (.d (f b)) M).bind fun A=>(lcF (kE 2 (bI (hName 0) (bI (hName 1) gW))) cF (fOp ltX (aB 0) (aB 1)) (nE ((b::r).map f) (((b::r).map f).drop 1)) [Z (.d (f a)),Z (.d (f b))] A.2).bind fun q=>Z (A.1::q.1,q.2))=_;rw[h,A2];dsimp only;rw[ih];rfl
def aFd:∀(xs ys:T6),(nE xs ys).length<=xs.length:=fun xs ys=>by
 rcases DY xs ys with h|h<;>omega
def aIZ{q:Type}(ds:Tx q):fU ds (Z 1) Y=ds.drop 1:=by
 unfold fU;rw[show(1:Int)=((1:Nat):Int)from rfl,HT.sIx_nat,HT.sIx_none];cases ds with
 |nil=>rfl
 |cons d ds=>rw[show min 1 (d::ds).length=1 by simp];exact List.take_of_length_le (by simp)
def xF{q:Type}{f:q->Ub}{lt:q->q->Bool}(h:∀a b,ltX (.d (f a)) (.d (f b)) M=Z (B (lt a b),M)){l:Tx q}(hd:aJ d=Z (l.map f))(A:l.length<=900):eB [.d d] M=Z (B ((adj lt l).all id),M):=by
 have t:(nE (l.map f) ((l.map f).drop 1)).length<=1000:=by
  have:=aFd (l.map f) ((l.map f).drop 1);rw[A0]at this;omega
 have it:DL (aA (aB 0) (aA (fSl (aB 0) (bY (fC (.int 1))) bT) aE)) [Z (.d d)] M=Z (nE (l.map f) ((l.map f).drop 1),M):=by
  cases d with
  |list xs=>cases hd;simp![DL,fSl,bY,bT,asI,slF,aIZ]
  |tuple xs=>cases hd;simp![DL,fSl,bY,bT,asI,slF,aIZ]
  |_=>cases hd
 have u:nH [Z (.d d)] M=Z (.d (.list ((adj lt l).map fun b=>.bool b)),M):=by
  unfold nH;exact iY it t (XD h l _ ⟨_,_,rfl⟩) (by rw[A0];have:=NW (lt:=lt) l;omega)
 have al:kT [.d (.list ((adj lt l).map fun b=>.bool b))] M=Z (B ((adj lt l).all id),M):=all_map' (f:=id) (ds:=adj lt l) (M:=M);exact eG rfl (fF (aK (aF u aI) al))
def OW{i j:Int}:gtI (I i) (I j) M=Z (B (decide (j<i)),M):=rfl
def pJ(x:Ub):FK x=pd (∃ds,aJ x=Z ds):=fY ⟨aAl,fun⟨ds,h⟩=>by cases x<;>first|rfl|cases h⟩
def NK(n:Int)(x:Ub):plc n x=pd (∃i,x=.int i/\0<=i/\i<n):=fY ⟨aBT,fun⟨i,e,q,t⟩=>by
 rw[e];show(decide (0<=i)&&decide (i<n))=true;rw[C7 q,C7 t];rfl⟩
def all_ints{Q:Int->Prop}:∀{ds:T6},(∀x∈ds,∃i,x=.int i/\Q i)->∃ns:T9,ds=ns.map .int/\∀i∈ns,Q i
 |[]=>fun _=>⟨[],rfl,fun i h=>by simp at h⟩
 |d::ds=>fun h=>by
  obtain⟨i,rfl,hi⟩:=h d A9;obtain⟨ns,rfl,hn⟩:=all_ints fun x q=>h x (B0 _ q);refine⟨i::ns,rfl,fun j hj=>?_⟩;rcases List.mem_cons.mp hj with rfl|hj
  .exact hi
  .exact hn j hj
def YG(hd:aJ d=Z (ns.map .int))(t:ns.length<=900):eB [.d d] M=Z (B (pd (Up ns)),M):=by
 rw[xF (f:=PyData.int) (lt:=fun a b=>decide (a<b)) (fun a b=>rfl) hd t,bpd (P:=Up ns)];rw[NP (lt:=fun a b:Int=>decide (a<b)) fun a b c u A=>C7 (Int.lt_trans (D9 u) (D9 A))];exact⟨fun h=>h.imp fun q=>D9 q,fun h=>h.imp fun q=>C7 q⟩
def iB{i:Int}{e:Ub}(hd:aJ d=Z ds)(h:atI ds i=Z e):ixF (.d d) (I i) M=Z (.d e,M):=by
 show(aJ d).bind _=_;rw[hd,A2,h];rfl
def aDO{g:EF}{P:Prop}(h:f γ M=Z (B (pd P),M))(p:P):eS f g γ M=g γ M:=by
 unfold eS;rw[h,kJ p];rfl
def aDQ{g:EF}{P:Prop}(h:f γ M=Z (B (pd P),M))(p:¬P):eS f g γ M=Z (B false,M):=by
 unfold eS;rw[h,fV p];rfl
def FS{q:Type}(x:q)(r:Tx q):atI (x::r) 0=Z x:=iR (k:=0) rfl
def YM{q:Type}(x y:q)(r:Tx q):atI (x::y::r) 1=Z y:=iR (k:=1) rfl
def LkD(n:Int)(d:Ub):Prop:=∃ns,dB d=Z ns/\LkP n ns
def iW(h:γ[i]?=Z (Z x)):aB i γ M=Z (x,M):=by simp only[aB,h]
def TR(E:∀ds,aJ d=Z ds->ds.length<=900):oH [I n,.d d] M=Z (B (pd (LkD n d)),M):=by
 have F:aH fZ (aA (aB 1) aE) [Z (I n),Z (.d d)] M=Z (B (pd (∃ds,aJ d=Z ds)),M):=by
  rw[<- pJ];exact uX d M
 have G:(∃ds,aJ d=Z ds)->eS (aH kT (aA fQ aE)) (aH eB (aA (aB 1) aE)) [Z (I n),Z (.d d)] M=Z (B (pd (∃ns,aJ d=Z (ns.map .int)/\(∀i∈ns,0<=i/\i<n)/\Up ns)),M):=by
  intro ⟨ds,hd⟩;have A:=E ds hd;have a:=zU (i:=1) (cap:=[Z 0,Y]) (f:=aB 1) (e:=aH cR (aA (aB 0) (aA (aB 1) aE))) (γ:=[Z (I n),Z (.d d)]) (M:=M) rfl hd A (P:=fun x=>∃i,x=.int i/\0<=i/\i<n) fun x t=>by rw[<- NK];exact tQ n x M
  rw[show fQ=fLc [Z 0,Y] (aY (aB 1)) (hName 1) cF (aH cR (aA (aB 0) (aA (aB 1) aE)))from rfl,tK (Q:=∃ns,aJ d=Z (ns.map .int)/\Up ns) a fun h=>?_]
  .refine C9 (fun b=>Z (B b,M)) (cA ⟨fun⟨h,ns,e,u⟩=>?_,fun⟨ns,e,h,u⟩=>?_⟩)
   .rw[hd]at e;cases e;refine⟨ns,hd,fun i hi=>?_,u⟩;obtain⟨j,e,q⟩:=h (.int i) (List.mem_map.mpr ⟨i,hi,rfl⟩);cases e;exact q
   .refine⟨fun x t=>?_,ns,e,u⟩;rw[hd]at e;cases e;obtain⟨i,hi,rfl⟩:=List.mem_map.mp t;exact⟨i,rfl,h i hi⟩
  .obtain⟨ns,rfl,hn⟩:=all_ints h;refine aK (aF rfl aI) ?_;rw[YG hd (by rw[A0]at A;exact A)];refine C9 (fun b=>Z (B b,M)) (cA ⟨fun u=>⟨ns,hd,u⟩,fun⟨ms,e,u⟩=>?_⟩);rw[hd]at e;have e:=D7 e;have:=A1g ns;rw[e,A1g]at this;cases this;exact u
 have H:eO [I n,.d d] M=Z (B (pd ((∃ds,aJ d=Z ds)/\∃ns,aJ d=Z (ns.map .int)/\(∀i∈ns,0<=i/\i<n)/\Up ns)),M):=eG rfl (fF (tK F G));have C:aH eO (aA (aB 0) (aA (aB 1) aE)) [Z (I n),Z (.d d)] M=Z (B (pd ((∃ds,aJ d=Z ds)/\∃ns,aJ d=Z (ns.map .int)/\(∀i∈ns,0<=i/\i<n)/\Up ns)),M):=H;refine eG rfl (fF ?_);show eS _ _ [Z (I n),Z (.d d)] M=_;rcases F4 ((∃ds,aJ d=Z ds)/\∃ns,aJ d=Z (ns.map .int)/\(∀i∈ns,0<=i/\i<n)/\Up ns)with p|p
 .rw[aDO C p];obtain⟨_,ns,hd,K,u⟩:=p;have l:bN [.d d] M=Z (I ns.length,M):=by rw[fG hd,A0]
  have D:fOp gtI (aH bN (aA (aB 1) aE)) (fC (.int 0)) [Z (I n),Z (.d d)] M=Z (B (pd (0<ns.length)),M):=by
   rw[aX (aK (aF rfl aI) l) rfl OW];exact C9 (fun b=>Z (B b,M)) (fY (by rw[E5];omega))
  rcases F4 (0<ns.length)with q|q
  .rw[aDO D q];cases ns with
   |nil=>cases q
   |cons x r=>
    rw[aX (aX rfl rfl (iB hd (i:=0) (e:=.int x) (FS _ _))) rfl OW];refine C9 (fun b=>Z (B b,M)) (fY ?_);rw[E5];constructor
    .intro t;refine⟨_,rowI_iff.mpr hd,u,by simp,fun y hy=>⟨?_,(K y hy).2⟩⟩;rcases List.mem_cons.mp hy with rfl|hy
     .exact t
     .have:=(List.pairwise_cons.mp u).1 y hy;omega
    .intro ⟨ms,e,k⟩;have e:=rowI_iff.mp e;rw[hd]at e;have e:=D7 e;cases ms with
     |nil=>cases e
     |cons y ms=>
      rw[B6,B6,S3]at e;cases e.1;exact(k.io x A9).1
  .rw[aDQ D q];refine C9 (fun b=>Z (B b,M)) (fV fun⟨ms,e,k⟩=>?_).symm;have e:=rowI_iff.mp e;rw[hd]at e;cases ns with
   |nil=>
    cases ms with
    |nil=>exact k.ne rfl
    |cons _ _=>cases e
   |cons _ _=>simp at q
 .rw[aDQ C p];refine C9 (fun b=>Z (B b,M)) (fV fun⟨ms,e,k⟩=>p ⟨⟨_,rowI_iff.mp e⟩,ms,rowI_iff.mp e,fun i hi=>?_,k.up⟩).symm;have:=k.io i hi;omega
def uO(x:Ub)(M:Sto):bF [.d x] M=Z (B (FK x),M):=by cases x<;>rfl
def aCi(lo n:Int)(ds:T6):Prop:=∃ns:T9,ds=ns.map .int/\Up ns/\∀p∈ns,lo<=p/\p<n
def aDK(lo hi:Int)(x:Ub):lw lo hi x=pd (∃i,x=.int i/\lo<=i/\i<=hi):=fY ⟨aFb,fun⟨i,e,q,t⟩=>by
 rw[e];show(decide (lo<=i)&&decide (i<=hi))=true;rw[C7 q,C7 t];rfl⟩
def HA{b:SF}{M1 M2:Sto}(h:g x γ M=Z (γ1,M1))(q:b γ1 M1=Z (.rt y,M2)):hV g b (x::xs) γ M=Z (.rt y,M2):=by
 conv=>lhs;unfold hV
 rw[h,A2];dsimp only;rw[q];rfl
def JB{n:Int}{d:CD}{M:Sto}:∀(ds:T6)(lo:Int)(g:Th),(aCi lo n ds->∃A g',hV (hName 3) dD (ds.map .d) [Z (I n),Z d,Z (I lo),g] M=Z (.nx [Z (I n),Z d,Z (I A),g'],M))/\(¬aCi lo n ds->hV (hName 3) dD (ds.map .d) [Z (I n),Z d,Z (I lo),g] M=Z (.rt (B false),M))
 |[]=>fun lo g=>⟨fun _=>⟨lo,g,rfl⟩,fun h=>absurd ⟨[],rfl,.nil,fun p h=>by simp at h⟩ h⟩
 |x::ds=>fun lo g=>by
  have t:cB (gB (aH dC (aA (aB 3) (aA (aB 2) (aA (fOp wH (aB 0) (fC (.int 1))) aE))))) [Z (I n),Z d,Z (I lo),Z (.d x)] M=Z (pd (¬∃i,x=.int i/\lo<=i/\i<=n-1),M):=by
   refine eQ (bM ?_);rw[<- aDK];exact aK (aF rfl (aF rfl (aF rfl aI))) (aIQ x lo (n-1) M)
  have C:hName 3 (.d x) [Z (I n),Z d,Z (I lo),g] M=Z ([Z (I n),Z d,Z (I lo),Z (.d x)],M):=rfl;rcases F4 (∃i,x=.int i/\lo<=i/\i<=n-1)with p|p
  .obtain⟨i,rfl,D,E⟩:=p
   have b:dD [Z (I n),Z d,Z (I lo),Z (I i)] M=Z (.nx [Z (I n),Z d,Z (I (i+1)),Z (I i)],M):=by
    unfold dD;rw[lD t fun q=>q ⟨i,rfl,D,E⟩];rfl
   have st:=dP (xs:=ds.map .d) C b;obtain⟨F,G⟩:=JB ds (i+1) (Z (I i)) (n:=n) (d:=d) (M:=M);rw[B6,st];refine⟨fun⟨ns,e,u,k⟩=>F ?_,fun h=>G fun⟨ns,e,u,k⟩=>h ⟨i::ns,by rw[e];rfl,?_,fun p hp=>?_⟩⟩
   .cases ns with
    |nil=>cases e
    |cons y ns=>
     rw[B6,S3]at e;cases e.1;have u:=List.pairwise_cons.mp u;exact⟨ns,e.2,u.2,fun p hp=>⟨by have:=u.1 p hp;omega,(k p (B0 _ hp)).2⟩⟩
   .exact List.pairwise_cons.mpr ⟨fun p hp=>by have:=(k p hp).1;omega,u⟩
   .rcases List.mem_cons.mp hp with rfl|hp
    .omega
    .have:=k p hp;omega
  .have b:dD [Z (I n),Z d,Z (I lo),Z (.d x)] M=Z (.rt (B false),M):=by
    unfold dD;exact kZ t p
   refine⟨fun⟨ns,e,u,k⟩=>(p ?_).elim,fun _=>HA C b⟩;cases ns with
   |nil=>cases e
   |cons y ns=>
    rw[B6,S3]at e;exact⟨y,e.1,by have:=k y A9;omega⟩
def aHI:gY [I n,.d d] M=Z (B (pd (LkD n d)),M):=by
 have c:gOr (cB (gB (aH bF (aA (aB 1) aE)))) (gB (fOp (eqX false) (aH bN (aA (aB 1) aE)) (fC (.int 0)))) [Z (I n),Z (.d d),Y,Y] M=Z (pd ((¬∃ds,aJ d=Z ds)\/aJ d=Z []),M):=by
  refine zE (eQ (bM ?_)) fun h=>?_
  .rw[<- pJ];exact uO d M
  .rw[A0c]at h;obtain⟨ds,hd⟩:=h;rw[bM (aX (aK (aF rfl aI) (fG hd M)) rfl KI),hd];refine C9 (fun b=>Z (b,M)) (fY ?_);rw[Z4];cases ds with
   |nil=>exact⟨fun _=>rfl,fun _=>rfl⟩
   |cons x xs=>exact⟨fun q=>by rw[L7]at q;omega,fun q=>by cases q⟩
 refine eG rfl ?_;show aZ _ _ [Z (I n),Z (.d d),Y,Y] M=_;rcases F4 ((¬∃ds,aJ d=Z ds)\/aJ d=Z [])with p|p
 .rw[kZ c p];refine C9 (fun b=>Z (Out.rt (B b),M)) (fV fun⟨ms,e,k⟩=>?_).symm;have e:=rowI_iff.mp e;rcases p with p|p
  .exact p ⟨_,e⟩
  .rw[p]at e;cases ms with
   |nil=>exact k.ne rfl
   |cons _ _=>cases e
 .rw[lD c p];have A:∃ds,aJ d=Z ds:=E1 fun q=>p (.inl q);obtain⟨ds,hd⟩:=A;have C:ds≠[]:=fun q=>p (.inr (by rw[hd,q]));rw[aV (show bD (fC (.int 1)) (hName 2) [Z (I n),Z (.d d),Y,Y] M=Z (.nx [Z (I n),Z (.d d),Z (I 1),Y],M)from rfl)];obtain⟨D,E⟩:=JB ds 1 Y (n:=n) (d:=.d d) (M:=M);have it:aY (aB 1) [Z (I n),Z (.d d),Z (I 1),Y] M=Z (ds.map .d,M):=fA rfl hd
  have t:aCi 1 n ds↔LkD n d:=by
   constructor
   .intro ⟨ns,e,u,k⟩;subst e;exact⟨ns,rowI_iff.mpr hd,u,fun q=>C (by rw[q];rfl),k⟩
   .intro ⟨ns,e,k⟩;have e:=rowI_iff.mp e;rw[hd]at e;exact⟨ns,D7 e,k.up,k.io⟩
  rcases F4 (aCi 1 n ds)with q|q
  .obtain⟨F,G,st⟩:=D q;rw[aV (cW it st),kJ (t.mp q)];rfl
  .rw[lU (cW it (E q)),fV fun z=>q (t.mpr z)]
noncomputable def lex:T9->T9->Bool
 |[],ys=>decide (0<ys.length)
 |_::_,[]=>false
 |x::xs,y::ys=>if x=y then lex xs ys else decide (x<y)
def OG:∀a:T9,lex a a=false
 |[]=>rfl
 |x::a=>by
  show(if x=x then lex a a else decide (x<x))=false;rw[A4 rfl];exact OG a
def lex_cc{x y:Int}:lex (x::a) (y::b)=true↔x<y\/(x=y/\lex a b=true):=by
 show(if x=y then lex a b else decide (x<y))=true↔_;by_cases e:x=y
 .rw[A4 e];exact⟨fun h=>.inr ⟨e,h⟩,fun h=>h.elim (fun q=>by omega) fun q=>q.2⟩
 .rw[B2 e,E5];exact⟨fun h=>.inl h,fun h=>h.elim id fun q=>absurd q.1 e⟩
def lex_nil(b:T9):lex b []=false:=by cases b<;>rfl
def wI:∀a b c:T9,lex a b=true->lex b c=true->lex a c=true
 |_,_,[]=>fun _ q=>by rw[lex_nil]at q;cases q
 |[],_,_::_=>fun _ _=>rfl
 |_::_,[],_=>fun t _=>by cases t
 |x::a,y::b,z::c=>fun t q=>by
  have t:=lex_cc.mp t;have q:=lex_cc.mp q;refine lex_cc.mpr ?_;rcases t with t|⟨A,t⟩
  .rcases q with q|⟨u,_⟩
   .exact .inl (by omega)
   .exact .inl (by omega)
  .rcases q with q|⟨u,q⟩
   .exact .inl (by omega)
   .exact .inr ⟨by omega,wI a b c t q⟩
def FI:∀a b:T9,lex a b=false->a≠b->lex b a=true
 |[],[]=>fun _ h=>absurd rfl h
 |[],_::_=>fun h _=>by cases h
 |_::_,[]=>fun _ _=>rfl
 |x::a,y::b=>fun h n=>by
  have h:(if x=y then lex a b else decide (x<y))=false:=h;show(if y=x then lex b a else decide (y<x))=true;by_cases e:x=y
  .subst e;rw[A4 rfl]at h ⊢;exact FI a b h fun q=>n (by rw[q])
  .rw[B2 e]at h;have h:=S8 h;rw[B2 fun q=>e q.symm];exact C7 (by omega)
noncomputable abbrev tR(l:T9):Ub:=.tuple (l.map .int)
def FY:∀a b:T9,dU (a.map .int) (b.map .int)=Z (lex a b)
 |[],b=>by
  show Z (decide (0<(b.map PyData.int).length))=Z (decide (0<b.length));rw[A0]
 |_::_,[]=>rfl
 |x::a,y::b=>by
  show(if PyData.eqv (.int x) (.int y)=true then dU (a.map .int) (b.map .int)else Z (decide (x<y)))=Z (if x=y then lex a b else decide (x<y));rw[FY a b];by_cases e:x=y
  .rw[A4 e,A4 (show PyData.eqv (.int x) (.int y)=true by rw[e];exact A1a y)]
  .rw[B2 e,B2 (show ¬PyData.eqv (.int x) (.int y)=true from fun q=>e (beq_iff_eq.mp (show(x==y)=true from q)))]
def yE(l:T9):(l.map PyData.int).all SeqAt.shaped=true:=by
 rw[List.all_map];exact List.all_eq_true.mpr fun _ _=>rfl
def aEh:ltX (.d (tR a)) (.d (tR b)) M=Z (B (lex a b),M):=by
 show(if ((a.map PyData.int).all SeqAt.shaped&&(b.map PyData.int).all SeqAt.shaped)=true then(dU (a.map .int) (b.map .int)).bind fun c=>Z (CD.d (.bool c),M)else Y)=_;rw[yE,yE,FY];rfl
def QT{x:Int}(hd:aJ d=Z (l.map .int)):inD false (I x) (.d d) M=Z (B (decide (x∈l)),M):=by
 show(aJ d).bind _=_;rw[hd,A2,yE,A4 (show(SeqAt.shaped (PyData.int x)&&true)=true from rfl)]
 have:((l.map PyData.int).any fun d=>PyData.eqv d (.int x))=decide (x∈l):=by
  rw[List.any_map,S0,List.any_eq_true,E5];constructor
  .intro ⟨y,q,e⟩;have e:y=x:=beq_iff_eq.mp (show(y==x)=true from e)
   rwa [<- e]
  .intro h;exact⟨x,h,show(x==x)=true from A1a x⟩
 exact C9 (fun b=>Z (B b,M)) this
def jZ(d:Ub):Tz (T0):=(aJ d).bind (GN dB)
def jL{q t γ:Type}{f:q->Tz t}{h:q->γ}{k:t->γ}(u:∀x l,f x=Z l->h x=k l):∀{ds:Tx q}{ls:Tx t},ds.map f=ls.map Z->ds.map h=ls.map k
 |[],[]=>fun _=>rfl
 |[],_::_=>fun e=>by cases e
 |_::_,[]=>fun e=>by cases e
 |d::ds,l::ls=>fun e=>by
  rw[B6,B6,S3]at e;rw[B6,B6,u d l e.1,jL u e.2]
def uN{t q:Type}{f:t->Tz q}{P:q->Prop}:∀{ds:Tx t},(∀x∈ds,∃l,f x=Z l/\P l)->∃ls:Tx q,ds.map f=ls.map Z/\∀l∈ls,P l
 |[]=>fun _=>⟨[],rfl,fun l h=>by simp at h⟩
 |d::ds=>fun h=>by
  obtain⟨l,e,u⟩:=h d A9;obtain⟨ls,es,hs⟩:=uN fun x A=>h x (B0 _ A);refine⟨l::ls,by rw[B6,e,es];rfl,fun j hj=>?_⟩;rcases List.mem_cons.mp hj with rfl|hj
  .exact u
  .exact hs j hj
def kX{A B:Type}{f:A->Tz B}{ds:Tx A}{ls:Tx B}(e:ds.map f=ls.map Z):(∀x∈ds,∃l∈ls,f x=Z l)/\∀l∈ls,∃x∈ds,f x=Z l:=by
 constructor
 .intro x t;have:f x∈ds.map f:=List.mem_map.mpr ⟨x,t,rfl⟩;rw[e]at this;obtain⟨l,u,q⟩:=List.mem_map.mp this;exact⟨l,u,q.symm⟩
 .intro l u;have:Z l∈ls.map Z:=List.mem_map.mpr ⟨l,u,rfl⟩;rw[<- e]at this;obtain⟨x,t,q⟩:=List.mem_map.mp this;exact⟨x,t,q⟩
def aFf{l:T9}(hd:aJ d=Z (l.map .int))(h:∀p∈l,0<=p/\p<=1000)(u:l.length<=900):wG [.d d] M=Z (I (bn l:Nat),M):=by
 have it:aY (aB 0) [Z (.d d)] M=Z (l.map (fun p=>I p),M):=by
  rw[fA (f:=aB 0) (γ:=[Z (.d d)]) (M:=M) rfl hd,B9];rfl
 have q:=nS (i:=0) (e:=fOp aFN (fC (.int 1)) (aB 0)) (γ0:=[Y]) (M:=M) (fun p:Int=>I p) (fun p=>.int ((2 ^ p.toNat:Nat):Int)) l fun p t=>by
  have ok:BH 1 p=true:=by
   unfold BH;rw[C7 (h p t).1,C7 (show p<=1000000 by have:=(h p t).2;omega)];rfl
  refine aX (c:=I ((2 ^ p.toNat:Nat):Int)) rfl rfl ?_;show(ifS (BH 1 p) (.int (1*2 ^ p.toNat))).bind _=_;rw[ok,Int.one_mul,Int.natCast_pow];rfl
 have c:BF [Z (.d d)] M=Z (.d (.list (l.map fun p=>.int ((2 ^ p.toNat:Nat):Int))),M):=by
  unfold BF;exact iY it (by rw[A0];omega) q (by rw[A0];omega)
 have s:sumF [.d (.list (l.map fun p=>.int ((2 ^ p.toNat:Nat):Int)))] M=Z (I (bn l:Nat),M):=by
  show(cN (l.map fun p=>PyData.int ((2 ^ p.toNat:Nat):Int))).bind _=_;rw[show(l.map fun p=>PyData.int ((2 ^ p.toNat:Nat):Int))=(l.map fun p=>((2 ^ p.toNat:Nat):Int)).map .int by rw[B9];rfl,A1g,A2];refine C9 (fun z:Int=>Z (I z,M)) ?_;unfold bn;clear it q c hd h u
  induction l with
  |nil=>rfl
  |cons p l ih=>rw[B6,B6,A0n,A0n,ih,Int.natCast_add]
 exact eG rfl (fF (aK (aF c aI) s))
def RE(a b:Nat)(M:Sto):zY (I (a:Int)) (I (b:Int)) M=Z (I ((a &&& b:Nat):Int),M):=by
 show Z (CD.d (.int (Builtin.bitAnd (a:Int) (b:Int))),M)=_;unfold Builtin.bitAnd;rw[C7 (A1m a),C7 (A1m b)];rfl
def EA{ps:T0}(A:Up a)(C:Nn a)(K:∀b∈ps,Up b/\Nn b)(R:ps.length<=900):kU [I (bn a:Nat),.d (.list (ps.map fun l=>.int (bn l:Nat)))] M=Z (B (pd (∃b∈ps,¬Lm a b)),M):=by
 have it:aY (aB 1) [Z (I (bn a:Nat)),Z (.d (.list (ps.map fun l=>.int (bn l:Nat))))] M=Z (ps.map (fun l=>I (bn l:Nat)),M):=by
  rw[fA (f:=aB 1) (d:=.list (ps.map fun l=>.int (bn l:Nat))) (M:=M) rfl rfl,B9];rfl
 have N:=nS (i:=1) (e:=fOp (inD true) (fOp zY (aB 0) (aB 1)) (cT (aA (fC (.int 0)) (aA (aB 0) (aA (aB 1) aE))))) (γ0:=[Z (I (bn a:Nat)),Y]) (M:=M) (fun l:T9=>I (bn l:Nat)) (fun l=>.bool (pd (¬Lm a l))) ps fun b u=>by
  obtain⟨D,E⟩:=K b u
  have t:cT (aA (fC (.int 0)) (aA (aB 0) (aA (aB 1) aE))) [Z (I (bn a:Nat)),Z (I (bn b:Nat))] M=Z (.d (.tuple [.int 0,.int (bn a:Nat),.int (bn b:Nat)]),M):=by
   show(if 3<=sizeLine then Z (CD.d (.tuple [.int 0,.int (bn a:Nat),.int (bn b:Nat)]),M)else Y)=_;rw[A4 (sz (by decide))]
  refine aX (c:=B (pd (¬Lm a b))) (aX rfl rfl (RE (bn a) (bn b) M)) t ?_
  have e:(!(((0:Int)==((bn a &&& bn b:Nat):Int)) || ((((bn a:Nat):Int)==((bn a &&& bn b:Nat):Int)) || ((((bn b:Nat):Int)==((bn a &&& bn b:Nat):Int)) || false))))=pd (¬Lm a b):=by
   refine fY ?_;have c:=Nat.and_comm (bn a) (bn b);rw[A0b,Bool.or_eq_false_iff,Bool.or_eq_false_iff,Bool.or_false,A0j,A0j,A0j];have G:=aCa A D C E;have H:=yH A D C E;have F:=yH D A E C;rw[<- c]at F;constructor
   .intro ⟨O,P,Q⟩ h;rcases h with h|h|h
    .exact P (by rw[H.mpr h])
    .exact Q (by rw[F.mpr h])
    .exact O (by rw[G.mpr h];rfl)
   .intro h;refine⟨fun q=>h (.inr (.inr (G.mp ?_))),fun q=>h (.inl (H.mp ?_)),fun q=>h (.inr (.inl (F.mp ?_)))⟩<;>omega
  rw[<- e];rfl
 have c:lM [Z (I (bn a:Nat)),Z (.d (.list (ps.map fun l=>.int (bn l:Nat))))] M=Z (.d (.list (ps.map fun l=>.bool (pd (¬Lm a l)))),M):=by
  unfold lM;exact iY it (by rw[A0];omega) N (by rw[A0];omega)
 have an:=any_map' (f:=fun l=>pd (¬Lm a l)) (ds:=ps) (M:=M);refine eG rfl (fF (aK (aF c aI) (an.trans (C9 (fun b=>Z (B b,M)) (fY ?_)))));rw[List.any_eq_true];exact⟨fun⟨b,u,h⟩=>⟨b,u,pd_iff.mp h⟩,fun⟨b,u,h⟩=>⟨b,u,pd_iff.mpr h⟩⟩
def FB{u:Type}{g:GF}{b:SF}{M:Sto}{y:CD}{f:u->CD}{Ok:u->Prop}{Sh:Ga->Prop}:∀(xs:Tx u)(γ:Ga),Sh γ->
 (∀x∈xs,∀γ,Sh γ->∃γ1,g (f x) γ M=Z (γ1,M)/\(Ok x->∃q,b γ1 M=Z (.nx q,M)/\Sh q)/\(¬Ok x->b γ1 M=Z (.rt y,M)))->
 ((∀x∈xs,Ok x)->∃t,hV g b (xs.map f) γ M=Z (.nx t,M)/\Sh t)/\((¬∀x∈xs,Ok x)->hV g b (xs.map f) γ M=Z (.rt y,M))
 |[]=>fun γ h _=>⟨fun _=>⟨γ,rfl,h⟩,fun n=>absurd (fun x B=>by simp at B) n⟩
 |x::xs=>fun γ h st=>by
  obtain⟨γ1,A,C,D⟩:=st x A9 γ h;rcases F4 (Ok x)with p|p
  .obtain⟨q,E,s2⟩:=C p;obtain⟨F,G⟩:=FB xs q s2 fun z hz=>st z (B0 _ hz);rw[B6,dP A E];refine⟨fun a=>F fun z hz=>a z (B0 _ hz),fun n=>G fun a=>n fun z hz=>?_⟩;rcases List.mem_cons.mp hz with rfl|hz
   .exact p
   .exact a z hz
  .exact⟨fun a=>absurd (a x A9) p,fun _=>HA A (D p)⟩
def AU{q:Type}{f:q->Ub}{x0:q}(ls:Tx q):rZ (ls.map f)=(List.range ls.length).map fun j:Nat=>.d (.tuple [.int (j:Nat),f (ls.getD j x0)]):=by
 unfold rZ;refine A0u fun i=>?_;rw[D6,List.getElem?_zipIdx,D6,D6];by_cases h:i<ls.length
 .rw[B1 h,A0i h];show Z (CD.d (.tuple [.int ((0+i:Nat):Int),f ls[i]]))=Z (CD.d (.tuple [.int ((i:Nat):Int),f (ls.getD i x0)]));rw[show ls.getD i x0=ls[i]by rw[A8,B1 h];rfl,A1k]
 .rw[A0a (by omega),A0a (by rw[E8];omega)];rfl
def qA{q:Type}(ds:Tx q)(j:Nat)(h:j<=ds.length):fU ds Y (Z (j:Int))=ds.take j:=by
 unfold fU;rw[HT.sIx_none,HT.sIx_nat];rw[Nat.min_eq_left h,List.drop_zero,Nat.sub_zero]
def aCd{x y:Ub}:kE 2 (bI (hName i) (bI (hName j) gW)) (.d (.tuple [x,y])) γ M=Z ((γ.set i (Z (.d x))).set j (Z (.d y)),M):=rfl
def zB(l:T9):Ub:=.int (bn l:Nat)
def Lm.refl(a:T9):Lm a a:=.inl fun _ h=>h
def XF{ls:T0}:(∀j,j<ls.length->∀b∈ls.take j,Lm (la ls j) b)↔∀a∈ls,∀b∈ls,Lm a b:=by
 constructor
 .intro h a ha b u;obtain⟨i,hi,rfl⟩:=PL ha;obtain⟨j,t,rfl⟩:=PL u
  have mem:∀{i j:Nat},i<j->j<ls.length->la ls i∈ls.take j:=fun{i j} A B=>by
   refine List.mem_iff_getElem?.mpr ⟨i,?_⟩;rw[List.getElem?_take_of_lt A,la,A8,B1 (by omega)];rfl
  rcases Nat.lt_trichotomy i j with q|q|q
  .exact(h j t _ (mem q t)).symm
  .rw[q];exact Lm.refl _
  .exact h i hi _ (mem q hi)
 .intro h j t b u;exact h _ (bS t) _ (A1f u)
def KM{ls:T0}(D:∀l∈ls,Up l/\Nn l)(N:ls.length<=900):mG [.d (.list (ls.map zB))] M=Z (B (pd (¬∀a∈ls,∀b∈ls,Lm a b)),M):=by
 have it:sH (aA (aB 0) aE) [Z (.d (.list (ls.map zB))),Y,Y] M=Z ((List.range ls.length).map (fun j:Nat=>.d (.tuple [.int (j:Nat),zB (la ls j)])),M):=by
  show Z (rZ (ls.map zB),M)=_;rw[AU (x0:=[]) ls]
 obtain⟨F,G⟩:=FB (g:=kE 2 (bI (hName 1) (bI (hName 2) gW))) (b:=jN) (M:=M) (y:=B true) (f:=fun j:Nat=>.d (.tuple [.int (j:Nat),zB (la ls j)])) (Ok:=fun j=>∀b∈ls.take j,Lm (la ls j) b) (Sh:=fun γ=>∃a b,γ=[Z (.d (.list (ls.map zB))),a,b]) (List.range ls.length) [Z (.d (.list (ls.map zB))),Y,Y] ⟨_,_,rfl⟩ (by
  intro j u γ ⟨a,b,e⟩;subst e;have u:=List.mem_range.mp u;refine⟨[Z (.d (.list (ls.map zB))),Z (I j),Z (.d (zB (la ls j)))],aCd,?_⟩;have E:=D _ (bS u)
  have sl:fSl (aB 0) bT (bY (aB 1)) [Z (.d (.list (ls.map zB))),Z (I j),Z (.d (zB (la ls j)))] M=Z (.d (.list ((ls.take j).map zB)),M):=by
   show Z (CD.d (.list (fU (ls.map zB) Y (Z (j:Int)))),M)=_;rw[qA _ _ (by rw[A0];omega),A0o]
  have c:=EA (a:=la ls j) (ps:=ls.take j) (M:=M) E.1 E.2 (fun b A=>D b (A1f A)) (by rw[Y3];omega);have t:gB (aH kU (aA (aB 2) (aA (fSl (aB 0) bT (bY (aB 1))) aE))) [Z (.d (.list (ls.map zB))),Z (I j),Z (.d (zB (la ls j)))] M=Z (pd (∃b∈ls.take j,¬Lm (la ls j) b),M):=bM (aK (aF rfl (aF sl aI)) c);constructor
  .intro ok;refine⟨[Z (.d (.list (ls.map zB))),Z (I j),Z (.d (zB (la ls j)))],?_,_,_,rfl⟩;rw[fV fun⟨b,A,n⟩=>n (ok b A)]at t;unfold jN;rw[fR t];rfl
  .intro H;have ex:∃b∈ls.take j,¬Lm (la ls j) b:=E1 fun q=>H fun b A=>E1 fun n=>q ⟨b,A,n⟩;rw[kJ ex]at t;unfold jN;rw[iP t];rfl)
 have C:(∀j∈List.range ls.length,∀b∈ls.take j,Lm (la ls j) b)↔∀a∈ls,∀b∈ls,Lm a b:=by
  rw[<- XF];exact⟨fun h j u=>h j (List.mem_range.mpr u),fun h j u=>h j (List.mem_range.mp u)⟩
 refine eG rfl ?_;show aZ _ _ [Z (.d (.list (ls.map zB))),Y,Y] M=_;rcases F4 (∀a∈ls,∀b∈ls,Lm a b)with p|p
 .obtain⟨K,e,_⟩:=F (C.mpr p);rw[aV (cW it e),fV fun q=>q p];rfl
 .rw[lU (cW it (G fun q=>p (C.mp q))),kJ p]
structure LnP(n:Int)(ls:T0):Prop where
 lk:∀l∈ls,LkP n l
 ris:ls.Pairwise fun a b=>lex a b=true
 lam:∀a∈ls,∀b∈ls,Lm a b
def LnP.fam(h:LnP n ls):Fam ls:=
 ⟨fun l t=>(h.lk l t).up,fun l t=>(h.lk l t).ne,fun l t x u=>by have:=(h.lk l t).io x u;omega,h.lam,h.ris.imp fun{a b} q e=>by rw[e,OG]at q;cases q⟩
def LnD(n:Int)(d:Ub):Prop:=∃ls,jZ d=Z ls/\LnP n ls
def Wi:Nat->Ub->Prop
 |0,_=>True
 |m+1,d=>∀ds,aJ d=Z ds->ds.length<64/\∀x∈ds,Wi m x
def HC{l:T9}(u:Up l)(h:∀p∈l,1<=p/\p<n)(hn:n<=40):l.length<=40:=by
 have:=U6 (l₁:=l) (l₂:=(List.range 40).map fun k:Nat=>(k:Int)) (sF u) fun x q=>by
  have:=h x q;exact List.mem_map.mpr ⟨x.toNat,List.mem_range.mpr (by omega),by omega⟩
 rw[A0,E8]at this;exact this
def linksI_iff{ls:T0}:jZ d=Z ls↔∃ds,aJ d=Z ds/\ds.map dB=ls.map Z:=by
 unfold jZ;rw[Option.bind_eq_some_iff];exact⟨fun⟨ds,q,t⟩=>⟨ds,q,allO_iff.mp t⟩,fun⟨ds,q,t⟩=>⟨ds,q,allO_iff.mpr t⟩⟩
def aAA{x:Ub}(h:dB x=Z l):cE [.d x] M=Z (.d (tR l),M):=by
 have h:=rowI_iff.mp h;cases x with
 |list xs=>cases h;rfl
 |tuple xs=>cases h;rfl
 |_=>cases h
def GI{ls:T0}(hi:(jS cap γ)[i]?=Z Y)(t:f γ M=Z (.d d,M))(hd:aJ d=Z ds)(e:ds.map dB=ls.map Z)(u:ds.length<=900):
 fLc cap (aY f) (hName i) cF (aH cE (aA (aB i) aE)) γ M=Z (.d (.list (ls.map tR)),M):=by
 have m:=vT (i:=i) (cap:=cap) (e:=aH cE (aA (aB i) aE)) (h:=fun x=>match dB x with|some l=>tR l|none=>.none) t hd u fun x A=>by
  obtain⟨l,_,q⟩:=(kX e).1 x A;refine aK (aF (iW (x:=.d x) ?_) aI) ?_
  .rw[E2 (List.getElem?_eq_some_iff.mp hi).1]
  .rw[aAA q,q]
 rw[m,jL (k:=tR) (fun x l q=>by rw[q]) e]
def EW{ls:T0}(hi:(jS cap γ)[i]?=Z Y)(t:f γ M=Z (.d d,M))(hd:aJ d=Z ds)(e:ds.map dB=ls.map Z)(u:ds.length<=900)(A:∀l∈ls,LkP n l)(hn:n<=40):
 fLc cap (aY f) (hName i) cF (aH wG (aA (aB i) aE)) γ M=Z (.d (.list (ls.map zB)),M):=by
 have m:=vT (i:=i) (cap:=cap) (e:=aH wG (aA (aB i) aE)) (h:=fun x=>match dB x with|some l=>zB l|none=>.none) t hd u fun x B=>by
  obtain⟨l,h,q⟩:=(kX e).1 x B;have k:=A l h;refine aK (aF (iW (x:=.d x) ?_) aI) ?_
  .rw[E2 (List.getElem?_eq_some_iff.mp hi).1]
  .rw[aFf (rowI_iff.mp q) (fun p C=>by have:=k.io p C;omega) (by have:=HC k.up k.io hn;omega),q];rfl
 rw[m,jL (k:=zB) (fun x l q=>by rw[q]) e]
def xQ{ds:T6}(hd:aJ d=Z ds)(h:∀x∈ds,LkD n x):∃ls,jZ d=Z ls/\ds.map dB=ls.map Z/\∀l∈ls,LkP n l:=by
 obtain⟨ls,e,q⟩:=uN (f:=dB) (P:=LkP n) h;exact⟨ls,linksI_iff.mpr ⟨ds,hd,e⟩,e,q⟩
def lC{q t:Type}{f:q->Tz t}{ds:Tx q}{ls:Tx t}(e:ds.map f=ls.map Z):ls.length=ds.length:=by
 have:=C9 List.length e;rw[A0,A0]at this;exact this.symm
def JW(hn:n<=40)(K:Wi 2 d):jV [I n,.d d] M=Z (B (pd (LnD n d)),M):=by
 have c:gOr (cB (gB (aH fZ (aA (aB 1) aE)))) (cB (gB (aH kT (aA mW aE)))) [Z (I n),Z (.d d)] M=Z (pd ((¬∃ds,aJ d=Z ds)\/¬∃ds,aJ d=Z ds/\∀x∈ds,LkD n x),M):=by
  refine zE (eQ (bM ?_)) fun h=>eQ (bM ?_)
  .rw[<- pJ];exact uX d M
  .rw[A0c]at h;obtain⟨ds,hd⟩:=h;obtain⟨A,u⟩:=K ds hd;have a:=zU (i:=1) (cap:=[Z 0,Y]) (f:=aB 1) (e:=aH oH (aA (aB 0) (aA (aB 1) aE))) (γ:=[Z (I n),Z (.d d)]) (M:=M) rfl hd (by omega) (P:=LkD n) fun x F=>TR (d:=x) (M:=M) fun xs G=>by have:=((u x F) xs G).1;omega
   rw[show mW=fLc [Z 0,Y] (aY (aB 1)) (hName 1) cF (aH oH (aA (aB 0) (aA (aB 1) aE)))from rfl,a];exact C9 (fun b=>Z (B b,M)) (cA ⟨fun h=>⟨ds,hd,h⟩,fun⟨es,D,H⟩=>by rw[hd]at D;cases D;exact H⟩)
 refine eG rfl ?_;show aZ _ _ [Z (I n),Z (.d d)] M=_;rcases F4 ((¬∃ds,aJ d=Z ds)\/¬∃ds,aJ d=Z ds/\∀x∈ds,LkD n x)with p|p
 .rw[kZ c p];refine C9 (fun b=>Z (Out.rt (B b),M)) (fV fun⟨ls,e,k⟩=>?_).symm;obtain⟨ds,hd,e⟩:=linksI_iff.mp e;refine p.elim (fun q=>q ⟨ds,hd⟩) fun q=>q ⟨ds,hd,fun x u=>?_⟩;obtain⟨l,A,q⟩:=(kX e).1 x u;exact⟨l,q,k.lk l A⟩
 .rw[lD c p];have Q:∃ds,aJ d=Z ds/\∀x∈ds,LkD n x:=E1 fun q=>p (.inr q);obtain⟨ds,hd,u⟩:=Q;obtain⟨ls,N,e,E⟩:=xQ hd u;have A:ds.length<=900:=by have:=(K ds hd).1;omega
  have C:ls.length<=900:=by rw[lC e];exact A
  have t:=GI (i:=0) (cap:=[Y]) (f:=aB 1) (γ:=[Z (I n),Z (.d d)]) (M:=M) rfl rfl hd e A;have R:=EW (i:=0) (cap:=[Y]) (f:=aB 1) (γ:=[Z (I n),Z (.d d)]) (M:=M) rfl rfl hd e A E hn
  have S:aH eB (aA sJ aE) [Z (I n),Z (.d d)] M=Z (B (pd (ls.Pairwise fun a b=>lex a b=true)),M):=by
   refine aK (aF t aI) ?_;rw[xF (f:=tR) (lt:=lex) (fun a b=>aEh) (d:=.list (ls.map tR)) rfl C];exact C9 (fun b=>Z (B b,M)) (fY (NP wI ls))
  have T:GA (aH mG (aA sU aE)) [Z (I n),Z (.d d)] M=Z (B (pd (¬¬∀a∈ls,∀b∈ls,Lm a b)),M):=by
   refine aBO (aK (aF R aI) ?_);exact KM (fun l h=>⟨(E l h).up,fun x u=>by have:=(E l h).io x u;omega⟩) C
  rw[fF (tK S fun _=>T)];refine C9 (fun b=>Z (Out.rt (B b),M)) (cA ⟨fun⟨D,H⟩=>⟨ls,N,E,D,Classical.not_not.mp H⟩,fun⟨ms,O,k⟩=>?_⟩);rw[N]at O;cases O;exact⟨k.ris,Classical.not_not.mpr k.lam⟩
def UX{q:Type}{xs:Tx q}{f:q->CD}{p:q->Bool}(it:fi γ M=Z (xs.map f,M))(u:xs.length<=900)(t:∀x∈xs,e ((jS cap γ).set i (Z (f x))) M=Z (B (p x),M)):
 aH anyF (aA (fLc cap fi (hName i) cF e) aE) γ M=Z (B (xs.any p),M):=
 aK (aF (iY (cap:=cap) it (by rw[A0];omega) (nS (γ0:=jS cap γ) f (fun x=>.bool (p x)) xs t) (by rw[A0];omega)) aI) any_map'
def aFM{q:Type}{xs:Tx q}{f:q->CD}{p:q->Bool}(it:fi γ M=Z (xs.map f,M))(u:xs.length<=900)(t:∀x∈xs,e ((jS cap γ).set i (Z (f x))) M=Z (B (p x),M)):
 aH kT (aA (fLc cap fi (hName i) cF e) aE) γ M=Z (B (xs.all p),M):=
 aK (aF (iY (cap:=cap) it (by rw[A0];omega) (nS (γ0:=jS cap γ) f (fun x=>.bool (p x)) xs t) (by rw[A0];omega)) aI) all_map'
def OB{g:EF}{b c:Bool}(h:f γ M=Z (B b,M))(q:g γ M=Z (B c,M)):eS f g γ M=Z (B (b&&c),M):=by
 unfold eS;rw[h,A2];dsimp only[asB];rw[A2];cases b with
 |true=>rw[A4 rfl,q,Bool.true_and]
 |false=>rw[B2 A7,Bool.false_and]
def aBr:hX aE γ M=Z (.d (.list []),M):=by
 show(if 0<=sizeLine then Z (CD.d (.list []),M)else Y)=_;rw[A4 (E9 _)]
def ne_nil{c:T9}:eqX true (.d (.list (c.map .int))) (.d (.list [])) M=Z (B (!c.isEmpty),M):=by
 show(if (SeqAt.shaped (.list (c.map .int))&&SeqAt.shaped (.list []))=true then Z (CD.d (.bool (!PyData.eqv (.list (c.map .int)) (.list []))),M)else Y)=_;rw[nR,show SeqAt.shaped (.list [])=true from rfl,A4 (show(true&&true)=true from rfl)];cases c<;>rfl
def aEg(h:γ[i]?=Z (Z (.d (tR l)))):aY (aB i) γ M=Z (l.map (fun p=>I p),M):=by
 rw[fA (iW h) (show aJ (tR l)=Z (l.map .int)from rfl),B9];rfl
def pH:bN [.d (tR l)] M=Z (I l.length,M):=by
 show Z (CD.d (.int ((l.map PyData.int).length:Nat)),M)=_;rw[A0]
def UG(u:a.length<=900):iF [.d (tR a),.d (tR b)] M=Z (B (crs a b),M):=by
 have t:=LG (i:=1) (c:=gB (fOp (inD false) (aB 1) (aB 0))) (e:=aB 1) (γ0:=[Z (.d (tR b)),Y]) (M:=M) (fun x:Int=>I x) (fun x=>decide (x∈b)) (fun x=>.int x) a [Z (.d (tR b)),Y] (fun _=>rfl) fun x A=>⟨bM (aX rfl rfl (QT rfl)),fun _=>rfl⟩
 have c:jC [Z (.d (tR a)),Z (.d (tR b)),Y] M=Z (.d (.list ((a.filter fun x=>decide (x∈b)).map .int)),M):=by
  unfold jC;refine iY (aEg (i:=0) rfl) (by rw[A0];omega) t ?_;have:=O6 (fun x=>decide (x∈b)) a;rw[A0];omega
 have q:bN [.d (.list ((a.filter fun x=>decide (x∈b)).map .int))] M=Z (I (a.filter fun x=>decide (x∈b)).length,M):=by
  rw[fG (ds:=(a.filter fun x=>decide (x∈b)).map .int) rfl,A0]
 refine eG rfl ?_;show aZ _ _ [Z (.d (tR a)),Z (.d (tR b)),Y] M=_;rw[aV (bJ (i:=2) c)];refine(fF (OB (aX rfl aBr ne_nil) (OB (aX (aK (aF rfl aI) q) (aK (aF rfl aI) pH) rfl) (aX (aK (aF rfl aI) q) (aK (aF rfl aI) pH) rfl)))).trans ?_;unfold crs;rw[show decide (((a.filter fun x=>decide (x∈b)).length:Int)<(a.length:Int))=decide ((a.filter fun x=>decide (x∈b)).length<a.length)from decide_eq_decide.mpr (by omega),show decide (((a.filter fun x=>decide (x∈b)).length:Int)<(b.length:Int))=decide ((a.filter fun x=>decide (x∈b)).length<b.length)from decide_eq_decide.mpr (by omega)]
def EC(q:b.length<=900):cY [.d (tR a),.d (tR b)] M=Z (B (hold a b),M):=by
 have al:=aFM (i:=1) (cap:=[Z 0,Y]) (e:=fOp (inD false) (aB 1) (aB 0)) (γ:=[Z (.d (tR a)),Z (.d (tR b))]) (M:=M) (f:=fun x:Int=>I x) (p:=fun x=>decide (x∈a)) (aEg (i:=1) rfl) q fun x t=>aX rfl rfl (QT rfl);refine eG rfl ((fF (OB (aX (aK (aF rfl aI) pH) (aK (aF rfl aI) pH) rfl) al)).trans ?_);unfold hold;rw[show decide ((b.length:Int)<(a.length:Int))=decide (b.length<a.length)from decide_eq_decide.mpr (by omega)]
abbrev lR(ls:T0):Ub:=.list (ls.map tR)
def aDL{ls:T0}(h:j<ls.length):atI (ls.map tR) (j:Int)=Z (tR (la ls j)):=by
 refine iR ?_;rw[D6,B1 h,la,A8,B1 h];rfl
def qC{ls:T0}(h:j<ls.length):ixF (.d (lR ls)) (I j) M=Z (.d (tR (la ls j)),M):=iB (ds:=ls.map tR) rfl (aDL h)
def aDY(h:γ[i]?=Z (Z (.d (lR ls)))):aY (aB i) γ M=Z (ls.map (fun l=>.d (tR l)),M):=by
 rw[fA (iW h) (show aJ (lR ls)=Z (ls.map tR)from rfl),B9];rfl
def FH:bN [.d (lR ls)] M=Z (I ls.length,M):=by
 show Z (CD.d (.int ((ls.map tR).length:Nat)),M)=_;rw[A0]
def FT{n:Nat}(h:fa γ M=Z ([I n],M))(hn:n<=900):fS fa γ M=Z ((List.range n).map (fun j:Nat=>I j),M):=by
 rw[wF h (mP (by omega) (by omega)),E3];unfold iE;refine C9 (fun z=>Z (z,M)) (Z2 fun k _=>?_);show I (0+(k:Int))=I k;rw[Int.zero_add]
def pw_adj{ls:T0}:(ls.Pairwise fun a b=>lex a b=true)↔∀j,j<ls.length->0<j->lex (la ls (j-1)) (la ls j)=true:=by
 have get:∀{j}(h:j<ls.length),la ls j=ls[j]:=fun{j} h=>by rw[la,A8,B1 h];rfl
 constructor
 .intro h j q u;rw[get q,get (show j-1<ls.length by omega)];exact List.pairwise_iff_getElem.mp h _ _ _ _ (by omega)
 .intro h
  have st:∀(m i:Nat),i+m+1<ls.length->lex (la ls i) (la ls (i+m+1))=true:=by
   intro m
   induction m with
   |zero=>intro i hi;exact h (i+1) (by omega) (by omega)
   |succ m ih=>intro i hi;exact wI _ _ _ (ih i (by omega)) (h (i+(m+1)+1) hi (by omega))
  rw[List.pairwise_iff_getElem];intro i j hi q t;have:=st (j-i-1) i (by omega);rw[show i+(j-i-1)+1=j by omega,get hi,get q]at this;exact this
def xV(hn:n<=40)(O:Wi 2 d):gJ [I n,.d d] M=Z (B (pd (LnD n d)),M):=by
 have c:gOr (cB (gB (aH bF (aA (aB 1) aE)))) (cB (gB (aH kT (aA iA aE)))) [Z (I n),Z (.d d),Y,Y] M=Z (pd ((¬∃ds,aJ d=Z ds)\/¬∃ds,aJ d=Z ds/\∀x∈ds,LkD n x),M):=by
  refine zE (eQ (bM ?_)) fun h=>eQ (bM ?_)
  .rw[<- pJ];exact uO d M
  .rw[A0c]at h;obtain⟨ds,hd⟩:=h;obtain⟨C,G⟩:=O ds hd;have a:=zU (i:=1) (cap:=[Z 0,Y]) (f:=aB 1) (e:=aH gY (aA (aB 0) (aA (aB 1) aE))) (γ:=[Z (I n),Z (.d d),Y,Y]) (M:=M) rfl hd (by omega) (P:=LkD n) fun x T=>aHI (d:=x) (M:=M);rw[show iA=fLc [Z 0,Y] (aY (aB 1)) (hName 1) cF (aH gY (aA (aB 0) (aA (aB 1) aE)))from rfl,a];exact C9 (fun b=>Z (B b,M)) (cA ⟨fun h=>⟨ds,hd,h⟩,fun⟨es,A,D⟩=>by rw[hd]at A;cases A;exact D⟩)
 refine eG rfl ?_;show aZ _ _ [Z (I n),Z (.d d),Y,Y] M=_;rcases F4 ((¬∃ds,aJ d=Z ds)\/¬∃ds,aJ d=Z ds/\∀x∈ds,LkD n x)with p|p
 .rw[kZ c p];refine C9 (fun b=>Z (Out.rt (B b),M)) (fV fun⟨ls,e,k⟩=>?_).symm;obtain⟨ds,hd,e⟩:=linksI_iff.mp e;refine p.elim (fun q=>q ⟨ds,hd⟩) fun q=>q ⟨ds,hd,fun x G=>?_⟩;obtain⟨l,C,q⟩:=(kX e).1 x G;exact⟨l,q,k.lk l C⟩
 .rw[lD c p];have U:∃ds,aJ d=Z ds/\∀x∈ds,LkD n x:=E1 fun q=>p (.inr q);obtain⟨ds,hd,G⟩:=U;obtain⟨ls,Q,e,H⟩:=xQ hd G;have C:ds.length<=900:=by have:=(O ds hd).1;omega
  have E:ls.length<=900:=by rw[lC e];exact C
  have t:=GI (i:=0) (cap:=[Y]) (f:=aB 1) (γ:=[Z (I n),Z (.d d),Y,Y]) (M:=M) rfl rfl hd e C;rw[aV (bJ (i:=2) (show lZ [Z (I n),Z (.d d),Y,Y] M=Z (.d (lR ls),M)from t))];show aZ _ _ [Z (I n),Z (.d d),Z (.d (lR ls)),Y] M=_;have it:fS (aA (aH bN (aA (aB 2) aE)) aE) [Z (I n),Z (.d d),Z (.d (lR ls)),Y] M=Z ((List.range ls.length).map (fun j:Nat=>I j),M):=FT (aF (aK (aF rfl aI) FH) aI) E
  obtain⟨V,W⟩:=FB (g:=hName 3) (b:=hJ) (M:=M) (y:=B false) (f:=fun j:Nat=>I j) (Ok:=fun j=>(0<j->lex (la ls (j-1)) (la ls j)=true)/\∀l∈ls,Lm (la ls j) l) (Sh:=fun γ=>∃a,γ=[Z (I n),Z (.d d),Z (.d (lR ls)),a]) (List.range ls.length) [Z (I n),Z (.d d),Z (.d (lR ls)),Y] ⟨_,rfl⟩ (by
   intro j u γ ⟨a,e⟩;subst e;have u:=List.mem_range.mp u;refine⟨[Z (I n),Z (.d d),Z (.d (lR ls)),Z (I j)],rfl,?_⟩;have K:=H _ (bS u);have lj:=HC K.up K.io hn
   have R:jR (gB (fOp gtI (aB 3) (fC (.int 0)))) (cB (gB (fOp ltX (fOp ixF (aB 2) (fOp wH (aB 3) (fC (.int 1)))) (fOp ixF (aB 2) (aB 3))))) [Z (I n),Z (.d d),Z (.d (lR ls)),Z (I j)] M=Z (pd (0<j/\¬lex (la ls (j-1)) (la ls j)=true),M):=by
    refine aBK (bM ?_) fun h=>eQ (bM ?_)
    .rw[aX rfl rfl OW];exact C9 (fun b=>Z (B b,M)) (fY (by rw[E5];omega))
    .have sb:fOp wH (aB 3) (fC (.int 1)) [Z (I n),Z (.d d),Z (.d (lR ls)),Z (I j)] M=Z (I (j-1:Nat),M):=by
      show Z (I ((j:Int)-1),M)=_;rw[show((j:Int)-1)=((j-1:Nat):Int)by omega]
     rw[aX (aX rfl sb (qC (j:=j-1) (by omega))) (aX rfl rfl (qC u)) aEh];exact C9 (fun b=>Z (B b,M)) (fY Iff.rfl)
   have N:gB (aH anyF (aA lF aE)) [Z (I n),Z (.d d),Z (.d (lR ls)),Z (I j)] M=Z (pd (∃l∈ls,¬Lm (la ls j) l),M):=by
    have an:=UX (i:=2) (cap:=[Z 2,Z 3,Y]) (e:=aH iF (aA (fOp ixF (aB 0) (aB 1)) (aA (aB 2) aE))) (γ:=[Z (I n),Z (.d d),Z (.d (lR ls)),Z (I j)]) (M:=M) (f:=fun l=>.d (tR l)) (p:=fun l=>crs (la ls j) l) (aDY (i:=2) rfl) E fun l C=>aK (aF (aX rfl rfl (qC u)) (aF rfl aI)) (UG (by omega));refine(bM an).trans (C9 (fun b=>Z (b,M)) (fY ?_));rw[List.any_eq_true];exact⟨fun⟨l,A,D⟩=>⟨l,A,(OH K.up (H l A).up).mp D⟩,fun⟨l,A,D⟩=>⟨l,A,(OH K.up (H l A).up).mpr D⟩⟩
   unfold hJ;rcases F4 (0<j/\¬lex (la ls (j-1)) (la ls j)=true)with q|q
   .exact⟨fun ok=>absurd (ok.1 q.1) q.2,fun _=>kZ R q⟩
   .rw[lD R q];have X:0<j->lex (la ls (j-1)) (la ls j)=true:=fun h=>E1 fun z=>q ⟨h,z⟩;rcases F4 (∃l∈ls,¬Lm (la ls j) l)with r|r
    .obtain⟨l,A,D⟩:=r;rw[kJ ⟨l,A,D⟩]at N;exact⟨fun ok=>absurd (ok.2 l A) D,fun _=>by rw[iP N];rfl⟩
    .rw[fV r]at N;refine⟨fun _=>⟨[Z (I n),Z (.d d),Z (.d (lR ls)),Z (I j)],by rw[fR N];rfl,_,rfl⟩,fun no=>absurd ⟨X,fun l A=>E1 fun z=>r ⟨l,A,z⟩⟩ no⟩)
  have F:(∀j∈List.range ls.length,(0<j->lex (la ls (j-1)) (la ls j)=true)/\∀l∈ls,Lm (la ls j) l)↔LnD n d:=by
   constructor
   .intro h;refine⟨ls,Q,H,pw_adj.mpr fun j u=>(h j (List.mem_range.mpr u)).1,fun a ha b hb=>?_⟩;obtain⟨j,u,rfl⟩:=PL ha;exact(h j (List.mem_range.mpr u)).2 b hb
   .intro ⟨ms,S,k⟩ j u;rw[Q]at S;cases S;have u:=List.mem_range.mp u;exact⟨fun h0=>pw_adj.mp k.ris j u h0,fun l C=>k.lam _ (bS u) l C⟩
  rcases F4 (LnD n d)with q|q
  .obtain⟨a0,e,_⟩:=V (F.mpr q);rw[aV (cW it e),kJ q];rfl
  .rw[lU (cW it (W fun z=>q (F.mp z))),fV q]
abbrev nI(os:Tg):T8:=os.map fun j:Nat=>I j
def ND{ls:T0}{os:Tg}(E:k<ls.length)(t:j<ls.length)(C:∀l∈ls,l.length<=900)(H:ls.length<=900)(u:M[c]?=Z (.lst (nI os)))(O:os.length<=900):
 iG [Z (.d (lR ls)),Z (I k),Z (.c c),Z (I j)] M=Z (.nx [Z (.d (lR ls)),Z (I k),Z (.c c),Z (I j)],M.set c (.lst (nI (if inB ls k j=true then os++[j]else os)))):=by
 have same:M.set c (.lst (nI os))=M:=by
  refine A0u fun i=>?_;by_cases q:c=i
  .subst q;rw[E2 (List.getElem?_eq_some_iff.mp u).1,u]
  .rw[D5 q]
 have A:gB (aH cY (aA (fOp ixF (aB 0) (aB 1)) (aA (fOp ixF (aB 0) (aB 3)) aE))) [Z (.d (lR ls)),Z (I k),Z (.c c),Z (I j)] M=Z (hold (la ls k) (la ls j),M):=bM (aK (aF (aX rfl rfl (qC E)) (aF (aX rfl rfl (qC t)) aI)) (EC (C _ (bS t))))
 have B:cB (gB (aH anyF (aA lO aE))) [Z (.d (lR ls)),Z (I k),Z (.c c),Z (I j)] M=Z (!(ls.any fun l=>hold (la ls k) l&&hold l (la ls j)),M):=by
  have an:=UX (i:=3) (cap:=[Z 0,Z 1,Z 3,Y]) (e:=eS (aH cY (aA (fOp ixF (aB 0) (aB 1)) (aA (aB 3) aE))) (aH cY (aA (aB 3) (aA (fOp ixF (aB 0) (aB 2)) aE)))) (γ:=[Z (.d (lR ls)),Z (I k),Z (.c c),Z (I j)]) (M:=M) (f:=fun l=>.d (tR l)) (p:=fun l=>hold (la ls k) l&&hold l (la ls j)) (aDY (i:=0) rfl) H fun l D=>OB (aK (aF (aX rfl rfl (qC E)) (aF rfl aI)) (EC (C l D))) (aK (aF rfl (aF (aX rfl rfl (qC t)) aI)) (EC (C _ (bS t))));unfold cB;rw[show lO=fLc [Z 0,Z 1,Z 3,Y] (aY (aB 0)) (hName 3) cF (eS (aH cY (aA (fOp ixF (aB 0) (aB 1)) (aA (aB 3) aE))) (aH cY (aA (aB 3) (aA (fOp ixF (aB 0) (aB 2)) aE))))from rfl,bM an];rfl
 have K:eZ (bL "list" bW (aB 2) (aA (aB 3) aE)) [Z (.d (lR ls)),Z (I k),Z (.c c),Z (I j)] M=Z (.nx [Z (.d (lR ls)),Z (I k),Z (.c c),Z (I j)],M.set c (.lst (nI (os++[j])))):=by
  have ty:tyB "list" M (.c c)=true:=by simp only[tyB,u];decide
  have N:bW (.c c) [I j] M=Z (.d .none,M.set c (.lst (nI (os++[j])))):=by
   have l:(nI os).length<sizeLine:=by rw[A0,S7];omega
   simp only[bW,u,if_pos l,nI,List.map_append,List.map_singleton]
  simp![bL,ty,N]
 unfold iG;unfold inB;cases F:hold (la ls k) (la ls j)with
 |false=>
  rw[F]at A;rw[fR A,Bool.false_and,B2 A7,same];rfl
 |true=>
  rw[F]at A;rw[iP A,Bool.true_and];cases G:(ls.any fun l=>hold (la ls k) l&&hold l (la ls j))with
  |false=>
   rw[G]at B;rw[iP B,A4 (show(!false)=true from rfl)];exact K
  |true=>
   rw[G]at B;rw[fR B,B2 (by decide),same];rfl
def NX{ls:T0}(A:k<ls.length)(B:∀l∈ls,l.length<=900)(C:ls.length<=900):dH [.d (lR ls),I k] M=Z (.c M.length,M++[.lst (nI (inn ls k))]):=by
 have it:fS (aA (aH bN (aA (aB 0) aE)) aE) [Z (.d (lR ls)),Z (I k),Z (.c M.length),Y] (M++[.lst []])=Z (iE 0 ls.length,M++[.lst []]):=by
  have:=wF (M:=M++[.lst []]) (fa:=aA (aH bN (aA (aB 0) aE)) aE) (γ:=[Z (.d (lR ls)),Z (I k),Z (.c M.length),Y]) (J:=(ls.length:Int)) (aF (aK (aF rfl aI) FH) aI) (mP (by omega) (by omega));rw[this,E3]
 obtain⟨D,M',e,⟨g,t⟩,u⟩:=rO (g:=hName 3) (b:=iG) (n:=ls.length) (Inv:=fun j γ M'=>(∃g,γ=[Z (.d (lR ls)),Z (I k),Z (.c M.length),g])/\M'=M++[.lst (nI ((List.range j).filter (inB ls k)))]) (by
  intro j E γ M' ⟨⟨g,t⟩,u⟩;subst t u;refine⟨[Z (.d (lR ls)),Z (I k),Z (.c M.length),Z (I j)],_,_,rfl,ND A E B C gE ?_,⟨_,rfl⟩,?_⟩
  .have:=O6 (inB ls k) (List.range j);rw[E8]at this;omega
  .rw[ET,List.range_succ,List.filter_append];cases q:inB ls k j with
   |true=>rw[A4 rfl,Y0 q,A0p]
   |false=>rw[B2 A7,U9 (by rw[q];decide),A0p,D8]) ls.length 0 [Z (.d (lR ls)),Z (I k),Z (.c M.length),Y] (M++[.lst []]) (A1k _) ⟨⟨_,rfl⟩,rfl⟩
 subst t u
 have F:bD (dS aE) (hName 2) [Z (.d (lR ls)),Z (I k),Y,Y] M=Z (.nx [Z (.d (lR ls)),Z (I k),Z (.c M.length),Y],M++[.lst []]):=by
  refine bJ (i:=2) (x:=.c M.length) ?_;show(if 0<=sizeLine then Z (CD.c M.length,M++[.lst []])else Y)=_;rw[A4 (E9 _)]
 refine eG rfl ?_;show aZ _ _ [Z (.d (lR ls)),Z (I k),Y,Y] M=_;rw[aV F,aV (cW it e)];rfl
noncomputable abbrev nP(os:Tg):T6:=os.map fun j:Nat=>.int j
def DO{ls:T0}{k:Nat}{os:Tg}(h:f γ M=Z (.c M.length,M++[.lst (nI os)])):eE f γ M=Z (.d (.list (nP os)),M++[.dead]):=by
 unfold eE;rw[h,A2];dsimp only;rw[gE];dsimp only;rw[show nI os=(nP os).map .d by rw[B9];rfl,eA,A2,ET]
def add_list{xs:T6}(q:xs.length+ys.length<=1000):eF (.d (.list xs)) (.d (.list ys)) M=Z (.d (.list (xs++ys)),M):=by
 show(match (rA M (.d (.list xs))).bind fun a=>(rA M (.d (.list ys))).bind fun b=>(iU (a++b)).bind fun ds=>if ds.length<=sizeLine then Z (CD.d (.list ds),M)else Y with|some r=>Z r|none=>_)=_
 have e:((rA M (.d (.list xs))).bind fun a=>(rA M (.d (.list ys))).bind fun b=>(iU (a++b)).bind fun ds=>if ds.length<=sizeLine then Z (CD.d (.list ds),M)else Y)=Z (.d (.list (xs++ys)),M):=by
  show(iU (xs.map .d++ys.map .d)).bind _=_;rw[<- F7,eA,A2,A4 (sz (by rw[A6];exact q))]
 rw[e]
def rH:∀ns ms:T9,PyData.eqvAll (ns.map .int) (ms.map .int)=decide (ns=ms)
 |[],[]=>rfl
 |[],_::_=>rfl
 |_::_,[]=>rfl
 |n::ns,m::ms=>by
  show((n==m)&&PyData.eqvAll (ns.map .int) (ms.map .int))=_;rw[rH ns ms,S0,B8,Z4,E5,E5,S3]
def aIh:eqX true (.d (.list (a.map .int))) (.d (.list (b.map .int))) M=Z (B (pd (a≠b)),M):=by
 show(if (SeqAt.shaped (.list (a.map .int))&&SeqAt.shaped (.list (b.map .int)))=true then Z (CD.d (.bool (!PyData.eqvAll (a.map .int) (b.map .int))),M)else Y)=_;rw[nR,nR,A4 (show(true&&true)=true from rfl),rH];exact C9 (fun b=>Z (B b,M)) (fY (by simp))
def aIx:eqX false (.d (.list (a.map .int))) (.d (.list (b.map .int))) M=Z (B (pd (a=b)),M):=by
 show(if (SeqAt.shaped (.list (a.map .int))&&SeqAt.shaped (.list (b.map .int)))=true then Z (CD.d (.bool (PyData.eqvAll (a.map .int) (b.map .int))),M)else Y)=_;rw[nR,nR,A4 (show(true&&true)=true from rfl),rH];exact C9 (fun b=>Z (B b,M)) (fY decide_eq_true_iff)
def uK(hd:aJ d=Z (ns.map .int))(q:ns.length<64):jA [.d d] M=Z (.d (.list ((dW ns).map .int)),M):=by
 cases d with
 |list xs=>cases hd;show(cN _).bind _=_;rw[A1g,A2,A4 q]
 |tuple xs=>cases hd;show(cN _).bind _=_;rw[A1g,A2,A4 q]
 |_=>cases hd
def yQ(hd:aJ d=Z ds):oI [.d d] M=Z (.d (.list ds),M):=by
 cases d with
 |list xs=>cases hd;rfl
 |tuple xs=>cases hd;rfl
 |_=>cases hd
noncomputable abbrev cz(os:Tg):T9:=os.map fun j:Nat=>(j:Int)
structure RgP(ls:T0)(k:Int)(os:T9):Prop where
 k0:0<=k/\k<ls.length
 o:∀j∈os,0<=j/\j<(ls.length:Int)
 so:dW os=cz (inn ls k.toNat)
 three:3<=os.length
 hd:os.getD 0 0<os.getD (os.length-1) 0
 sm:(os.map fun j=>(la ls j.toNat).length).sum=(la ls k.toNat).length
def fB(d:Ub):Tz (Int×T9):=match aJ d with
 |some [.int k,o]=>(dB o).bind fun os=>Z (k,os)
 |_=>Y
def ringI_iff{k:Int}:fB d=Z (k,os)↔∃o,aJ d=Z [.int k,o]/\dB o=Z os:=by
 unfold fB;constructor
 .intro h;split at h
  .rename_i k' o e;obtain⟨z,q,t⟩:=Option.bind_eq_some_iff.mp h;cases t;exact⟨o,e,q⟩
  .cases h
 .intro ⟨o,q,t⟩;rw[q];show(dB o).bind _=_;rw[t];rfl
def RgD(ls:T0)(d:Ub):Prop:=∃k os,fB d=Z (k,os)/\RgP ls k os
def QP{q:Type}{xs:Tx q}{x0:q}(h:0<xs.length):atI xs (-1)=Z (xs.getD (xs.length-1) x0):=by
 unfold atI ixN;rw[B2 (by decide)];rw[A4 (by omega),A2,show((-1:Int)+(xs.length:Int)).toNat=xs.length-1 by omega,A8,B1 (by omega)];rfl
def IT{q:Type}{xs:Tx q}{x0:q}(h:0<xs.length):atI xs 0=Z (xs.getD 0 x0):=by
 cases xs with
 |nil=>cases h
 |cons x r=>exact FS x r
def IC(h:k<os.length):(os.map PyData.int).getD k .none=.int (os.getD k 0):=by
 rw[A8,D6,A8,B1 h];rfl
def IR(hd:aJ d=Z (os.map .int))(h:0<os.length):ixF (.d d) (I 0) M=Z (I (os.getD 0 0),M):=iB hd (by rw[IT (x0:=.none) (by rw[A0];exact h),IC h])
def PU(hd:aJ d=Z (os.map .int))(h:0<os.length):ixF (.d d) (I (-1)) M=Z (I (os.getD (os.length-1) 0),M):=iB hd (by rw[QP (x0:=.none) (by rw[A0];exact h),A0,IC (by omega)])
def aFw:fUn rX (fC (.int 1)) γ M=Z (I (-1),M):=rfl
def HQ(F:Fam ls)(t:k<ls.length)(so:dW os=cz (inn ls k)):(os.map fun j=>(la ls j.toNat).length).sum=(la ls k).length↔dW (cat ls (os.map Int.toNat))=la ls k:=by
 have pm:=(eL os).symm;rw[so]at pm
 have q:(os.map Int.toNat).Perm (inn ls k):=by
  have:=pm.map Int.toNat;rw[B9,show(Int.toNat ∘ fun j:Nat=>(j:Int))=id from funext fun j=>E3 j,List.map_id]at this;exact this
 have nd:(os.map Int.toNat).Nodup:=q.nodup_iff.mpr (List.nodup_range.filter _);have:=aCe F t nd fun j u=>q.mem_iff.mp u;rw[GO,B9]at this;exact this
def zW(F:Fam ls)(A:k<ls.length)(so:dW os=cz (inn ls k)):(cat ls (os.map Int.toNat)).length<=(la ls k).length:=by
 have pm:=(eL os).symm;rw[so]at pm
 have q:(os.map Int.toNat).Perm (inn ls k):=by
  have:=pm.map Int.toNat;rw[B9,show(Int.toNat ∘ fun j:Nat=>(j:Int))=id from funext fun j=>E3 j,List.map_id]at this;exact this
 have nd:(os.map Int.toNat).Nodup:=q.nodup_iff.mpr (List.nodup_range.filter _);refine U6 (aBa F nd fun j t=>q.mem_iff.mp t) fun x u=>?_;obtain⟨j,t,u⟩:=List.mem_flatMap.mp u;have hi:=q.mem_iff.mp t;have B:=inB_any.mp (List.mem_filter.mp hi).2;exact((fK (F.up _ (bS A)) (F.up _ (bS (eH hi)))).mp B.1).1 x u
def vB(ls:T0)(j:Nat)(os:Tg):cat ls (j::os)=la ls j++cat ls os:=O8
def JP{ls:T0}{d x3:CD}{M:Sto}:∀(os:T9)(acc:T9)(g:Th),(∀j∈os,0<=j/\j<(ls.length:Int))->acc.length+(cat ls (os.map Int.toNat)).length<=900->
 ∃g',hV (hName 2) gL (os.map fun j=>I j) [Z (.d (lR ls)),Z d,g,Z x3,Z (.d (.list (acc.map .int)))] M=Z (.nx [Z (.d (lR ls)),Z d,g',Z x3,Z (.d (.list ((acc++cat ls (os.map Int.toNat)).map .int)))],M)
 |[]=>fun acc g _ _=>⟨g,by rw[show cat ls (([]:T9).map Int.toNat)=[]from rfl,D8];rfl⟩
 |j::os=>fun acc g h u=>by
  have t:=h j A9;obtain⟨q,rfl⟩:∃q:Nat,j=(q:Int):=⟨j.toNat,by omega⟩;have A:q<ls.length:=by omega
  rw[B6,vB,A6,E3]at u
  have b:gL [Z (.d (lR ls)),Z d,Z (I q),Z x3,Z (.d (.list (acc.map .int)))] M=Z (.nx [Z (.d (lR ls)),Z d,Z (I q),Z x3,Z (.d (.list ((acc++la ls q).map .int)))],M):=by
   refine bJ (i:=4) (aX rfl (aK (aF (aX rfl rfl (qC A)) aI) (yQ (ds:=(la ls q).map .int) rfl)) ?_);rw[add_list (by rw[A0,A0];omega),F7]
  obtain⟨g',e⟩:=JP os (acc++la ls q) (Z (I q)) (ls:=ls) (d:=d) (x3:=x3) (M:=M) (fun j t=>h j (B0 _ t)) (by rw[A6];omega);refine⟨g',?_⟩;rw[B6,dP (show hName 2 (I q) [Z (.d (lR ls)),Z d,g,Z x3,Z (.d (.list (acc.map .int)))] M=Z ([Z (.d (lR ls)),Z d,Z (I q),Z x3,Z (.d (.list (acc.map .int)))],M)from rfl) b,e,B6,vB,E3,F0]
def yM{q:Type}{ds:Tx q}(h:ds.length=2):∃a b,ds=[a,b]:=by
 match ds,h with
 |[a,b],_=>exact⟨a,b,rfl⟩
def CN{c d:TF}{M1:Sto}(h:c γ M=Z (true,M1)):gOr c d γ M=Z (true,M1):=by
 unfold gOr;rw[h];rfl
def sP{c d:TF}{M1:Sto}(h:c γ M=Z (false,M1)):gOr c d γ M=d γ M1:=by
 unfold gOr;rw[h];rfl
def two_pd{x:Ub}:(∃ds,aJ x=Z ds/\ds.length=2)↔∃a b,aJ x=Z [a,b]:=
 ⟨fun⟨ds,h,l⟩=>let⟨a,b,e⟩:=yM l;⟨a,b,by rw[h,e]⟩,fun⟨a,b,h⟩=>⟨_,h,rfl⟩⟩
def NT{x:Ub}{rest:TF}(A:γ[i]?=Z (Z (.d x)))(B:∀a b,aJ x=Z [a,b]->rest γ M=Z (pd Q,M)):
 gOr (cB (gB (aH bF (aA (aB i) aE)))) (gOr (gB (fOp (eqX true) (aH bN (aA (aB i) aE)) (fC (.int 2)))) rest) γ M=Z (pd ((¬∃a b,aJ x=Z [a,b])\/Q),M):=by
 have t:cB (gB (aH bF (aA (aB i) aE))) γ M=Z (pd (¬∃ds,aJ x=Z ds),M):=by
  refine eQ (bM (aK (aF (iW A) aI) ?_));rw[<- pJ];exact uO x M
 rcases F4 (∃ds,aJ x=Z ds)with p|p
 .obtain⟨ds,hd⟩:=p;rw[fV fun q=>q ⟨ds,hd⟩]at t;rw[sP t];have u:gB (fOp (eqX true) (aH bN (aA (aB i) aE)) (fC (.int 2))) γ M=Z (!((ds.length:Int)==2),M):=bM (aX (aK (aF (iW A) aI) (fG hd M)) rfl aGF);by_cases l:ds.length=2
  .obtain⟨a,b,rfl⟩:=yM l;rw[sP (show gB (fOp (eqX true) (aH bN (aA (aB i) aE)) (fC (.int 2))) γ M=Z (false,M)from u),B a b hd];exact C9 (fun b=>Z (b,M)) (cA ⟨.inr,fun h=>h.elim (fun q=>absurd ⟨a,b,hd⟩ q) id⟩)
  .have e:(!((ds.length:Int)==2))=true:=by
    rw[A0b,A0j];omega
   rw[e]at u;rw[CN u,kJ];refine .inl fun⟨a,b,q⟩=>l ?_;rw[hd]at q;cases q;rfl
 .rw[kJ p]at t;rw[CN t,kJ];exact .inl fun⟨a,b,q⟩=>p ⟨_,q⟩
def qW{X:CD}:(gOr (cB (gB (aH bF (aA (aB 1) aE)))) (gOr (gB (fOp (eqX true) (aH bN (aA (aB 1) aE)) (fC (.int 2)))) (gOr (cB (gB (aH bF (aA (fOp ixF (aB 1) (fC (.int 1))) aE)))) (gB (fOp ltI (aH bN (aA (fOp ixF (aB 1) (fC (.int 1))) aE)) (fC (.int 3))))))) [Z X,Z (.d d),g2,g3,g4] M=Z (pd (¬∃a o os,aJ d=Z [a,o]/\aJ o=Z os/\3<=os.length),M):=by
 refine(NT (i:=1) (x:=d) rfl (Q:=¬∃a o os,aJ d=Z [a,o]/\aJ o=Z os/\3<=os.length) fun a o hd=>?_).trans (C9 (fun b=>Z (b,M)) (cA ⟨fun h=>h.elim (fun q ⟨a,o,os,t,_⟩=>q ⟨a,o,t⟩) id,.inr⟩));have ix:fOp ixF (aB 1) (fC (.int 1)) [Z X,Z (.d d),g2,g3,g4] M=Z (.d o,M):=aX rfl rfl (iB hd (YM a o []))
 have u:cB (gB (aH bF (aA (fOp ixF (aB 1) (fC (.int 1))) aE))) [Z X,Z (.d d),g2,g3,g4] M=Z (pd (¬∃ds,aJ o=Z ds),M):=by
  refine eQ (bM (aK (aF ix aI) ?_));rw[<- pJ];exact uO o M
 rcases F4 (∃ds,aJ o=Z ds)with p|p
 .obtain⟨os,A⟩:=p;rw[fV fun q=>q ⟨os,A⟩]at u;rw[sP u,bM (aX (aK (aF ix aI) (fG A M)) rfl (show ltI (I os.length) (I 3) M=Z (B (decide ((os.length:Int)<3)),M)from rfl))];refine C9 (fun b=>Z (b,M)) (fY ?_);rw[E5];constructor
  .intro h ⟨E,o',D,t,C,F⟩;rw[hd]at t;cases t;rw[A]at C;cases C;omega
  .intro h
   apply E1
   intro n;exact h ⟨a,o,os,hd,A,by omega⟩
 .rw[kJ p]at u;rw[CN u,kJ];intro ⟨E,o',D,t,C,_⟩;rw[hd]at t;cases t;exact p ⟨_,C⟩
def BS(F:Fam ls)(hw:∀l∈ls,l.length<=40)(hl:ls.length<64)(U:Wi 2 d):∃L,gA [.d (lR ls),.d d] M=Z (B (pd (RgD ls d)),M++L):=by
 have nil:M++[]=M:=D8 M;have u:∀{b:Bool}{L:Sto},dQ [Z (.d (lR ls)),Z (.d d),Y,Y,Y] M=Z (.rt (B b),M++L)->b=pd (RgD ls d)->∃L,gA [.d (lR ls),.d d] M=Z (B (pd (RgD ls d)),M++L):=fun{b L} h e=>⟨L,by rw[<- e];exact eG rfl h⟩;rcases F4 (∃a o os,aJ d=Z [a,o]/\aJ o=Z os/\3<=os.length)with p|p
 .obtain⟨a,o,xs,hd,H,V⟩:=p;have K:xs.length<64:=((U _ hd).2 o (by simp) xs H).1;have D:∀{g2 g3 g4:Th}{M:Sto},fOp ixF (aB 1) (fC (.int 0)) [Z (.d (lR ls)),Z (.d d),g2,g3,g4] M=Z (.d a,M):=aX rfl rfl (iB hd (FS a [o]));have W:∀{g2 g3 g4:Th}{M:Sto},fOp ixF (aB 1) (fC (.int 1)) [Z (.d (lR ls)),Z (.d d),g2,g3,g4] M=Z (.d o,M):=aX rfl rfl (iB hd (YM a o []));have N:∀{g2 g3 g4:Th}{M:Sto},aH oI (aA (fOp ixF (aB 1) (fC (.int 1))) aE) [Z (.d (lR ls)),Z (.d d),g2,g3,g4] M=Z (.d (.list xs),M):=aK (aF W aI) (yQ H)
  have it:aY (fOp eF (hX (aA (fOp ixF (aB 1) (fC (.int 0))) aE)) (aH oI (aA (fOp ixF (aB 1) (fC (.int 1))) aE))) [Z (.d (lR ls)),Z (.d d),Y,Y,Y] M=Z ((a::xs).map .d,M):=by
   have l1:hX (aA (fOp ixF (aB 1) (fC (.int 0))) aE) [Z (.d (lR ls)),Z (.d d),Y,Y,Y] M=Z (.d (.list [a]),M):=by
    unfold hX;rw[aF D aI,A2];show(if 1<=sizeLine then Z (CD.d (.list [a]),M)else Y)=_;rw[A4 (sz (by decide))]
   exact fA (aX l1 N (add_list (by rw[E7];omega))) rfl
  obtain⟨r1,r2⟩:=FB (g:=hName 2) (b:=iZ) (M:=M) (y:=B false) (f:=CD.d) (Ok:=fun x=>∃i,x=.int i/\0<=i/\i<=(ls.length:Int)-1) (Sh:=fun γ=>∃g,γ=[Z (.d (lR ls)),Z (.d d),g,Y,Y]) (a::xs) [Z (.d (lR ls)),Z (.d d),Y,Y,Y] ⟨_,rfl⟩ (by
   intro x hx γ ⟨g,e⟩;subst e;refine⟨[Z (.d (lR ls)),Z (.d d),Z (.d x),Y,Y],rfl,?_⟩
   have t:cB (gB (aH dC (aA (aB 2) (aA (fC (.int 0)) (aA (fOp wH (aH bN (aA (aB 0) aE)) (fC (.int 1))) aE))))) [Z (.d (lR ls)),Z (.d d),Z (.d x),Y,Y] M=Z (pd (¬∃i,x=.int i/\0<=i/\i<=(ls.length:Int)-1),M):=by
    refine eQ (bM ?_);rw[<- aDK];exact aK (aF rfl (aF rfl (aF (aX (aK (aF rfl aI) FH) rfl rfl) aI))) (aIQ x 0 ((ls.length:Int)-1) M)
   unfold iZ;refine⟨fun ok=>⟨_,?_,⟨Z (.d x),rfl⟩⟩,fun no=>?_⟩
   .rw[fV fun q=>q ok]at t;rw[fR t];rfl
   .rw[kJ no]at t;rw[iP t];rfl)
  have g1:∀{r:SF},aZ (sIf (gOr (cB (gB (aH bF (aA (aB 1) aE)))) (gOr (gB (fOp (eqX true) (aH bN (aA (aB 1) aE)) (fC (.int 2)))) (gOr (cB (gB (aH bF (aA (fOp ixF (aB 1) (fC (.int 1))) aE)))) (gB (fOp ltI (aH bN (aA (fOp ixF (aB 1) (fC (.int 1))) aE)) (fC (.int 3))))))) (cD (fC (.bool false))) bR) r [Z (.d (lR ls)),Z (.d d),Y,Y,Y] M=r [Z (.d (lR ls)),Z (.d d),Y,Y,Y] M:=lD qW fun q=>q ⟨a,o,xs,hd,H,V⟩;rcases F4 (∀x∈a::xs,∃i,x=.int i/\0<=i/\i<=(ls.length:Int)-1)with ok|no
  .obtain⟨a3,e,⟨g,rfl⟩⟩:=r1 ok;obtain⟨k,rfl,k0,k1⟩:=ok a A9;obtain⟨os,rfl,X⟩:=all_ints fun x hx=>ok x (B0 _ hx);rw[A0]at V K;obtain⟨q,rfl⟩:∃q:Nat,k=(q:Int):=⟨k.toNat,by omega⟩;have E:q<ls.length:=by omega
   have C:∀j∈os,0<=j/\j<(ls.length:Int):=fun j hj=>by have:=X j hj;omega
   have R:fB d=Z ((q:Int),os):=ringI_iff.mpr ⟨o,hd,rowI_iff.mpr H⟩;have a0:∀{P:Prop},(RgP ls q os↔P)->pd P=pd (RgD ls d):=fun{P} h=>cA ⟨fun z=>⟨_,_,R,h.mpr z⟩,fun⟨k',O,e,z⟩=>by rw[R]at e;cases e;exact h.mp z⟩;have so:=uK (d:=.list (os.map .int)) (M:=M) rfl K;have inr:=DO (ls:=ls) (k:=q) (γ:=[Z (.d (lR ls)),Z (.d d),g,Z (.d (.list (os.map .int))),Y]) (f:=aH dH (aA (aB 0) (aA (fOp ixF (aB 1) (fC (.int 0))) aE))) (aK (aF rfl (aF D aI)) (NX (M:=M) E (fun l h=>by have:=hw l h;omega) (by omega)))
   have Q:gB (fOp (eqX true) (aH jA (aA (aB 3) aE)) (eE (aH dH (aA (aB 0) (aA (fOp ixF (aB 1) (fC (.int 0))) aE))))) [Z (.d (lR ls)),Z (.d d),g,Z (.d (.list (os.map .int))),Y] M=Z (pd (dW os≠cz (inn ls q)),M++[Cell.dead]):=by
    refine bM (aX (aK (aF rfl aI) so) inr ?_);rw[show nP (inn ls q)=(cz (inn ls q)).map .int by rw[B9];rfl];exact aIh
   have S:gB (fOp geI (fOp ixF (aB 3) (fC (.int 0))) (fOp ixF (aB 3) (fUn rX (fC (.int 1))))) [Z (.d (lR ls)),Z (.d d),g,Z (.d (.list (os.map .int))),Y] (M++[Cell.dead])=Z (decide (os.getD (os.length-1) 0<=os.getD 0 0),M++[Cell.dead]):=bM (aX (aX rfl rfl (IR (os:=os) rfl (by omega))) (aX rfl aFw (PU (os:=os) rfl (by omega))) rfl)
   have A:dQ [Z (.d (lR ls)),Z (.d d),Y,Y,Y] M=aZ (sIf (gOr (gB (fOp (eqX true) (aH jA (aA (aB 3) aE)) (eE (aH dH (aA (aB 0) (aA (fOp ixF (aB 1) (fC (.int 0))) aE)))))) (gB (fOp geI (fOp ixF (aB 3) (fC (.int 0))) (fOp ixF (aB 3) (fUn rX (fC (.int 1))))))) (cD (fC (.bool false))) bR) (aZ (bD (hX aE) (hName 4)) (aZ (gV (aY (aB 3)) (hName 2) gL) (cD (fOp (eqX false) (aH jA (aA (aB 4) aE)) (aH oI (aA (fOp ixF (aB 0) (fOp ixF (aB 1) (fC (.int 0)))) aE)))))) [Z (.d (lR ls)),Z (.d d),g,Z (.d (.list (os.map .int))),Y] M:=by
    unfold dQ;rw[g1,aV (cW it e),aV (bJ (i:=3) N)];rfl
   rcases F4 (dW os=cz (inn ls q))with s|s
   .rw[fV fun z=>z s]at Q;by_cases h0:os.getD 0 0<os.getD (os.length-1) 0
    .rw[E4 (by omega)]at S;have a4:=zW F E s;have wq:=hw _ (bS E);obtain⟨g',cl⟩:=JP os [] g (ls:=ls) (d:=.d d) (x3:=.d (.list (os.map .int))) (M:=M++[Cell.dead]) C (by rw[A0q];omega)
     have a1:aY (aB 3) [Z (.d (lR ls)),Z (.d d),g,Z (.d (.list (os.map .int))),Z (.d (.list []))] (M++[Cell.dead])=Z (os.map (fun j=>I j),M++[Cell.dead]):=by
      rw[fA (f:=aB 3) (γ:=[Z (.d (lR ls)),Z (.d d),g,Z (.d (.list (os.map .int))),Z (.d (.list []))]) (d:=.list (os.map .int)) (M:=M++[Cell.dead]) rfl rfl,B9];rfl
     have a2:=uK (d:=.list ((cat ls (os.map Int.toNat)).map .int)) (ns:=cat ls (os.map Int.toNat)) (M:=M++[Cell.dead]) rfl (by omega);refine u (L:=[Cell.dead]) (b:=pd (dW (cat ls (os.map Int.toNat))=la ls q)) ?_ (a0 ⟨fun z=>(HQ F E s).mp z.sm,fun z=>⟨⟨by omega,by omega⟩,C,s,V,h0,(HQ F E s).mpr z⟩⟩);rw[A,aV (show sIf _ _ _ _ _=Z (.nx [Z (.d (lR ls)),Z (.d d),g,Z (.d (.list (os.map .int))),Y],M++[Cell.dead])from by rw[fR ((sP Q).trans S)];rfl),aV (bJ (i:=4) aBr)];show aZ _ _ [Z (.d (lR ls)),Z (.d d),g,Z (.d (.list (os.map .int))),Z (.d (.list []))] (M++[Cell.dead])=_;rw[aV (cW a1 cl)];refine fF (aX (aK (aF rfl aI) a2) (aK (aF (aX rfl D (qC E)) aI) (yQ (ds:=(la ls q).map .int) rfl)) ?_);exact aIx
    .rw[C7 (by omega)]at S;refine u (L:=[Cell.dead]) (b:=false) ?_ (fV fun⟨k',O,e,z⟩=>?_).symm
     .rw[A];exact lU (by rw[iP ((sP Q).trans S)];rfl)
     .rw[R]at e;cases e;exact h0 z.hd
   .rw[kJ s]at Q;refine u (L:=[Cell.dead]) (b:=false) ?_ (fV fun⟨k',O,e,z⟩=>?_).symm
    .rw[A];exact lU (by rw[iP (CN Q)];rfl)
    .rw[R]at e;cases e;exact s z.so
  .refine u (L:=[]) (b:=false) ?_ (fV fun⟨k,os,e,z⟩=>no fun x hx=>?_).symm
   .unfold dQ;rw[g1,lU (cW it (r2 no)),nil]
   .obtain⟨o',T,G⟩:=ringI_iff.mp e;rw[hd]at T;cases T;have G:=rowI_iff.mp G;rw[H]at G;cases G;rcases List.mem_cons.mp hx with rfl|hx
    .exact⟨k,rfl,z.k0.1,by have:=z.k0.2;omega⟩
    .obtain⟨j,hj,rfl⟩:=List.mem_map.mp hx;have:=z.o j hj;exact⟨j,rfl,this.1,by omega⟩
 .refine u (L:=[]) (b:=false) ?_ (fV fun⟨k,os,e,z⟩=>?_).symm
  .unfold dQ;rw[kZ qW p,nil]
  .obtain⟨o',T,G⟩:=ringI_iff.mp e;exact p ⟨_,o',_,T,rowI_iff.mp G,by rw[A0];exact z.three⟩
def kF(d:Ub):Tz (T3):=(aJ d).bind (GN fB)
def ringsI_iff{rs:T3}:kF d=Z rs↔∃ds,aJ d=Z ds/\ds.map fB=rs.map Z:=by
 unfold kF;rw[Option.bind_eq_some_iff];exact⟨fun⟨ds,q,t⟩=>⟨ds,q,allO_iff.mp t⟩,fun⟨ds,q,t⟩=>⟨ds,q,allO_iff.mpr t⟩⟩
structure RsP(ls:T0)(rs:T3):Prop where
 rg:∀r∈rs,RgP ls r.1 r.2
 up:Up (rs.map (·.1))
def ChD(n:Int)(d:Ub):Prop:=∃a b ls rs,aJ d=Z [a,b]/\jZ a=Z ls/\LnP n ls/\kF b=Z rs/\RsP ls rs
def LpP(ls:T0)(lo:Int)(xs:T6):Prop:=∃rs:T3,xs.map fB=rs.map Z/\RsP ls rs/\∀r∈rs,lo<=r.1
def yY{n d:CD}(F:Fam ls)(O:∀l∈ls,l.length<=40)(P:ls.length<64):∀(xs:T6)(lo:Int)(g:Th)(M:Sto),(∀x∈xs,Wi 2 x)->
 ∃L,(LpP ls lo xs->∃H,hV (hName 4) bO (xs.map .d) [Z n,Z d,Z (.d (lR ls)),Z (I lo),g] M=Z (.nx H,M++L))/\(¬LpP ls lo xs->hV (hName 4) bO (xs.map .d) [Z n,Z d,Z (.d (lR ls)),Z (I lo),g] M=Z (.rt (B false),M++L))
 |[]=>fun lo g M _=>⟨[],fun _=>⟨_,by rw[D8];rfl⟩,fun h=>absurd ⟨[],rfl,⟨fun r h=>by simp at h,.nil⟩,fun r h=>by simp at h⟩ h⟩
 |x::xs=>fun lo g M Q=>by
  obtain⟨t,R⟩:=BS (M:=M) F O P (Q x A9);have K:hName 4 (.d x) [Z n,Z d,Z (.d (lR ls)),Z (I lo),g] M=Z ([Z n,Z d,Z (.d (lR ls)),Z (I lo),Z (.d x)],M):=rfl
  have D:cB (gB (aH gA (aA (aB 2) (aA (aB 4) aE)))) [Z n,Z d,Z (.d (lR ls)),Z (I lo),Z (.d x)] M=Z (!pd (RgD ls x),M++t):=by
   unfold cB;rw[bM (aK (aF rfl (aF rfl aI)) R)];rfl
  rcases F4 (RgD ls x)with p|p
  .rw[kJ p]at D;obtain⟨k,os,E,rg⟩:=p;obtain⟨o,hd,_⟩:=ringI_iff.mp E;have ix:∀{M:Sto},fOp ixF (aB 4) (fC (.int 0)) [Z n,Z d,Z (.d (lR ls)),Z (I lo),Z (.d x)] M=Z (I k,M):=aX rfl rfl (iB hd (FS _ _));have G:gB (fOp ltI (fOp ixF (aB 4) (fC (.int 0))) (aB 3)) [Z n,Z d,Z (.d (lR ls)),Z (I lo),Z (.d x)] (M++t)=Z (decide (k<lo),M++t):=bM (aX ix rfl rfl);by_cases q:k<lo
   .rw[C7 q]at G
    have b:bO [Z n,Z d,Z (.d (lR ls)),Z (I lo),Z (.d x)] M=Z (.rt (B false),M++t):=by
     unfold bO;exact lU (by rw[iP ((sP D).trans G)];rfl)
    refine⟨t,fun⟨rs,e,A,C⟩=>?_,fun _=>HA K b⟩;cases rs with
    |nil=>cases e
    |cons r rs=>
     rw[B6,B6,S3,E]at e;cases e.1;have:=C _ A9;omega
   .rw[E4 q]at G
    have b:bO [Z n,Z d,Z (.d (lR ls)),Z (I lo),Z (.d x)] M=Z (.nx [Z n,Z d,Z (.d (lR ls)),Z (I (k+1)),Z (.d x)],M++t):=by
     unfold bO;rw[aV (show sIf _ _ _ _ _=Z (.nx [Z n,Z d,Z (.d (lR ls)),Z (I lo),Z (.d x)],M++t)from by rw[fR ((sP D).trans G)];rfl)];exact bJ (i:=3) (aX ix rfl aEb)
    obtain⟨L2,S,T⟩:=yY F O P xs (k+1) (Z (.d x)) (M++t) (n:=n) (d:=d) fun y N=>Q y (B0 _ N);refine⟨t++L2,?_⟩;rw[B6,dP K b,<- F0];refine⟨fun⟨rs,e,A,C⟩=>S ?_,fun h=>T fun⟨rs,e,A,C⟩=>h ⟨(k,os)::rs,?_,⟨fun r hr=>?_,?_⟩,fun r hr=>?_⟩⟩
    .cases rs with
     |nil=>cases e
     |cons r rs=>
      rw[B6,B6,S3,E]at e;cases e.1;have u:=List.pairwise_cons.mp (show List.Pairwise (·<·) (k::rs.map (·.1))from A.up);refine⟨rs,e.2,⟨fun r hr=>A.rg r (B0 _ hr),u.2⟩,fun r hr=>?_⟩;have:=u.1 r.1 (List.mem_map.mpr ⟨r,hr,rfl⟩);omega
    .rw[B6,B6,E,e]
    .rcases List.mem_cons.mp hr with rfl|hr
     .exact rg
     .exact A.rg r hr
    .refine List.pairwise_cons.mpr ⟨fun y N=>?_,A.up⟩;obtain⟨r,hr,rfl⟩:=List.mem_map.mp N;have:=C r hr;show k<r.1;omega
    .rcases List.mem_cons.mp hr with rfl|hr
     .show lo<=k;omega
     .have:=C r hr;omega
  .rw[fV p]at D
   have b:bO [Z n,Z d,Z (.d (lR ls)),Z (I lo),Z (.d x)] M=Z (.rt (B false),M++t):=by
    unfold bO;exact lU (by rw[iP (CN D)];rfl)
   refine⟨t,fun⟨rs,e,A,C⟩=>(p ?_).elim,fun _=>HA K b⟩;cases rs with
   |nil=>cases e
   |cons r rs=>
    rw[B6,B6,S3]at e;exact⟨r.1,r.2,e.1,A.rg r A9⟩
def lps{b:Ub}{xs:T6}(q:aJ b=Z xs):LpP ls 0 xs↔∃rs,kF b=Z rs/\RsP ls rs:=
 ⟨fun⟨rs,e,h,_⟩=>⟨rs,ringsI_iff.mpr ⟨xs,q,e⟩,h⟩,fun⟨rs,e,h⟩=>by
  obtain⟨ds,t,u⟩:=ringsI_iff.mp e;rw[q]at t;cases t;exact⟨rs,u,h,fun r A=>(h.rg r A).k0.1⟩⟩
def zA(hn:n<=40)(F:Wi 4 d):∃L,fL [I n,.d d] M=Z (B (pd (ChD n d)),M++L):=by
 have c:gOr (cB (gB (aH bF (aA (aB 1) aE)))) (gOr (gB (fOp (eqX true) (aH bN (aA (aB 1) aE)) (fC (.int 2)))) (gOr (cB (gB (aH gJ (aA (aB 0) (aA (fOp ixF (aB 1) (fC (.int 0))) aE))))) (cB (gB (aH bF (aA (fOp ixF (aB 1) (fC (.int 1))) aE)))))) [Z (I n),Z (.d d),Y,Y,Y] M=Z (pd ((¬∃a b,aJ d=Z [a,b])\/((∃a b,aJ d=Z [a,b]/\¬LnD n a)\/∃a b,aJ d=Z [a,b]/\¬∃ds,aJ b=Z ds)),M):=by
  refine NT (i:=1) rfl fun a b hd=>?_
  have G:Wi 2 a:=by
   intro xs H;have:=(F _ hd).2 a (by simp) xs H;exact⟨this.1,fun y V W X=>⟨((this.2 y V) W X).1,fun _ _=>trivial⟩⟩
  have T:∀{P:Ub->Ub->Prop},(∃a b,aJ d=Z [a,b]/\P a b)↔P a b:=fun{P}=>⟨fun⟨K,N,h,p⟩=>by rw[hd]at h;cases h;exact p,fun p=>⟨a,b,hd,p⟩⟩;refine zE ?_ fun _=>?_
  .rw[cA (T (P:=fun a b=>¬LnD n a))];exact eQ (bM (aK (aF rfl (aF (aX rfl rfl (iB hd (FS _ _))) aI)) (xV hn G)))
  .rw[cA (T (P:=fun a b=>¬∃ds,aJ b=Z ds))];refine eQ (bM (aK (aF (aX rfl rfl (iB hd (YM _ _ _))) aI) ?_));rw[<- pJ];exact uO b M
 have A:∀{b:Bool}{L:Sto},dY [Z (I n),Z (.d d),Y,Y,Y] M=Z (.rt (B b),M++L)->b=pd (ChD n d)->∃L,fL [I n,.d d] M=Z (B (pd (ChD n d)),M++L):=fun{b L} h e=>⟨L,by rw[<- e];exact eG rfl h⟩;rcases F4 ((¬∃a b,aJ d=Z [a,b])\/((∃a b,aJ d=Z [a,b]/\¬LnD n a)\/∃a b,aJ d=Z [a,b]/\¬∃ds,aJ b=Z ds))with p|p
 .refine A (L:=[]) (b:=false) ?_ (fV fun⟨a,b,ls,rs,hd,C,D,U,h4⟩=>?_).symm
  .unfold dY;rw[kZ c p,D8]
  .rcases p with p|⟨K,N,e,p⟩|⟨K,N,e,p⟩
   .exact p ⟨a,b,hd⟩
   .rw[hd]at e;cases e;exact p ⟨ls,C,D⟩
   .rw[hd]at e;cases e;obtain⟨ds,h,_⟩:=ringsI_iff.mp U;exact p ⟨ds,h⟩
 .have p1:∃a b,aJ d=Z [a,b]:=E1 fun q=>p (.inl q);obtain⟨a,b,hd⟩:=p1;have p2:LnD n a:=E1 fun q=>p (.inr (.inl ⟨a,b,hd,q⟩));have p3:∃ds,aJ b=Z ds:=E1 fun q=>p (.inr (.inr ⟨a,b,hd,q⟩));obtain⟨ls,O,ln⟩:=p2;obtain⟨xs,Q⟩:=p3;obtain⟨ds,ha,e⟩:=linksI_iff.mp O;have G:=(F _ hd).2 a (by simp) ds ha;have wb:=(F _ hd).2 b (by simp) xs Q;have hl:ls.length<64:=by rw[lC e];exact G.1
  have R:∀{g2 g3 g4:Th}{M:Sto},fOp ixF (aB 1) (fC (.int 0)) [Z (I n),Z (.d d),g2,g3,g4] M=Z (.d a,M):=aX rfl rfl (iB hd (FS _ _));have S:∀{g2 g3 g4:Th}{M:Sto},fOp ixF (aB 1) (fC (.int 1)) [Z (I n),Z (.d d),g2,g3,g4] M=Z (.d b,M):=aX rfl rfl (iB hd (YM _ _ _));have t:=GI (i:=0) (cap:=[Y]) (f:=fOp ixF (aB 1) (fC (.int 0))) (γ:=[Z (I n),Z (.d d),Y,Y,Y]) (M:=M) rfl R ha e (by omega);obtain⟨L,r1,r2⟩:=yY (n:=I n) (d:=.d d) ln.fam (fun l h=>HC (ln.lk l h).up (ln.lk l h).io hn) hl xs 0 Y M fun x H=>wb.2 x H
  have u:dY [Z (I n),Z (.d d),Y,Y,Y] M=aZ (gV (aY (fOp ixF (aB 1) (fC (.int 1)))) (hName 4) bO) (cD (fC (.bool true))) [Z (I n),Z (.d d),Z (.d (lR ls)),Z (I 0),Y] M:=by
   unfold dY;rw[lD c p,aV (bJ (i:=2) (show mM _ _=Z (.d (lR ls),M)from t)),aV (bJ (i:=3) (aJh (i:=0)))];rfl
  have it:aY (fOp ixF (aB 1) (fC (.int 1))) [Z (I n),Z (.d d),Z (.d (lR ls)),Z (I 0),Y] M=Z (xs.map .d,M):=fA S Q
  have E:LpP ls 0 xs↔ChD n d:=by
   rw[lps Q];constructor
   .intro ⟨rs,C,D⟩;exact⟨a,b,ls,rs,hd,O,ln,C,D⟩
   .intro ⟨K,N,a0,rs,C,D,U,h4,h5⟩;rw[hd]at C;cases C;rw[O]at D;cases D;exact⟨rs,h4,h5⟩
  rcases F4 (LpP ls 0 xs)with q|q
  .obtain⟨a1,e⟩:=r1 q;refine A (L:=L) (b:=true) ?_ (kJ (E.mp q)).symm;rw[u,aV (cW it e)];rfl
  .refine A (L:=L) (b:=false) ?_ (fV fun z=>q (E.mpr z)).symm;rw[u,lU (cW it (r2 q))]
def yJ{g:GF}{b:SF}{f:Nat->CD}{n:Nat}{Inv:Nat->Ga->Sto->Prop}(step:∀k,k<n->∀γ M,Inv k γ M->∃γ1 M1 q M',g (f k) γ M=Z (γ1,M1)/\b γ1 M1=Z (.nx q,M')/\Inv (k+1) q M'):
 ∀(m k:Nat)(γ:Ga)(M:Sto),k+m=n->Inv k γ M->∃q M',hV g b ((List.range' k m).map f) γ M=Z (.nx q,M')/\Inv n q M'
 |0=>fun k γ M h i=>⟨γ,M,rfl,by rw[<- h];exact i⟩
 |m+1=>fun k γ M h i=>by
  obtain⟨γ1,M0,t,M1,u,A,i1⟩:=step k (by omega) γ M i;obtain⟨q,M',B,i2⟩:=yJ step m (k+1) t M1 (by omega) i1;refine⟨q,M',?_,i2⟩;rw[List.range'_succ,B6,dP u A];exact B
def zQ{t:Type}{g:GF}{c:TF}{e:EF}{M:Sto}(f:t->CD)(p:t->Bool)(h:t->Ub){Sh:Ga->Prop}:∀(xs:Tx t)(γ:Ga),Sh γ->(∀x∈xs,∀γ,Sh γ->∃γ1,Sh γ1/\g (f x) γ M=Z (γ1,M)/\c γ1 M=Z (p x,M)/\(p x=true->e γ1 M=Z (.d (h x),M)))->lcF g c e (xs.map f) γ M=Z (((xs.filter p).map h).map .d,M)
 |[]=>fun γ _ _=>rfl
 |x::xs=>fun γ u A=>by
  obtain⟨γ1,s1,B,C,D⟩:=A x A9 γ u;have ih:=zQ (g:=g) (c:=c) (e:=e) (M:=M) f p h xs γ1 s1 (fun y E=>A y (B0 _ E));rw[B6];unfold lcF;rw[B,A2];dsimp only;rw[C,A2];dsimp only;cases q:p x with
  |false=>rw[B2 (by decide),ih,U9 (by rw[q];decide)]
  |true=>
   rw[A4 rfl,D q,A2];dsimp only;rw[ih,Y0 q];rfl
def vY:∀(r:Tx (Int×Int))(b:Int×Int),∃c∈b::r,AO b r=c.1/\∀d∈b::r,c.2<=d.2
 |[]=>fun b=>⟨b,A9,rfl,fun d hd=>by rw[List.mem_singleton.mp hd];exact Int.le_refl _⟩
 |y::r=>fun b=>by
  by_cases q:y.2<b.2
  .obtain⟨c,hc,e,l⟩:=vY r y;refine⟨c,B0 _ hc,by rw[<- e];show AO (if y.2<b.2 then y else b) r=_;rw[A4 q],fun d hd=>?_⟩;rcases List.mem_cons.mp hd with rfl|hd
   .have:=l y A9;omega
   .exact l d hd
  .obtain⟨c,hc,e,l⟩:=vY r b;refine⟨c,?_,by rw[<- e];show AO (if y.2<b.2 then y else b) r=_;rw[B2 q],fun d hd=>?_⟩
   .rcases List.mem_cons.mp hc with rfl|hc
    .exact A9
    .exact B0 _ (B0 _ hc)
   .rcases List.mem_cons.mp hd with rfl|hd
    .exact l _ A9
    .rcases List.mem_cons.mp hd with rfl|hd
     .have:=l b A9;omega
     .exact l d (B0 _ hd)
def VX{xs:T9}(h:xs≠[]):FL xs zs∈xs/\∀x∈xs,zs.getD (FL xs zs).toNat 0<=zs.getD x.toNat 0:=by
 cases xs with
 |nil=>exact absurd rfl h
 |cons x r=>
  obtain⟨c,hc,e,l⟩:=vY (r.map fun y=>(y,zs.getD y.toNat 0)) (x,zs.getD x.toNat 0)
  have m:∀y∈x::r,(y,zs.getD y.toNat 0)∈(x,zs.getD x.toNat 0)::r.map fun y=>(y,zs.getD y.toNat 0):=fun y hy=>by
   rcases List.mem_cons.mp hy with rfl|hy
   .exact A9
   .exact B0 _ (List.mem_map.mpr ⟨y,hy,rfl⟩)
  have b:∃y∈x::r,c=(y,zs.getD y.toNat 0):=by
   rcases List.mem_cons.mp hc with q|hc
   .exact⟨x,A9,q⟩
   .obtain⟨y,hy,q⟩:=List.mem_map.mp hc;exact⟨y,B0 _ hy,q.symm⟩
  obtain⟨y,hy,rfl⟩:=b;have e:FL (x::r) zs=y:=e;rw[e];exact⟨hy,fun z t=>l _ (m z t)⟩
structure SW(ls:T0)(M M':Sto)(j:Nat):Prop where
 len:M'.length=M.length+ls.length+1
 pre:∀i,i<M.length->M'[i]?=M[i]?
 top:M'[M.length+ls.length]?=Z (.lst ((List.range ls.length).map fun k=>.c (M.length+k)))
 cs:∀k,k<ls.length->M'[M.length+k]?=Z (.lst (nI ((List.range j).filter (inB ls k))))
abbrev sS(ls:T0):Ub:=.list (ls.map zB)
def aBp(ls:T0):ls.map zB=(ls.map fun l=>((bn l:Nat):Int)).map .int:=by rw[B9];rfl
def PY{ls:T0}(k:Nat):(ls.map fun l=>((bn l:Nat):Int)).getD k 0=((bn (la ls k):Nat):Int):=by
 unfold la;rw[A8,A8,D6];cases ls[k]?<;>rfl
def aEu{ls:T0}(h:γ[i]?=Z (Z (.d (sS ls)))):sH (aA (aB i) aE) γ M=Z ((List.range ls.length).map fun j:Nat=>.d (.tuple [.int (j:Nat),zB (la ls j)]),M):=by
 unfold sH;rw[aF (iW h) aI,A2];show Z (rZ (ls.map zB),M)=_;rw[AU (x0:=[])]
def VQ{ls:T0}(G:ls.length<=900)(t:γ[0]?=Z (Z (.d (sS ls))))(u:γ[2]?=Z (Z (I j)))(A:γ[3]?=Z (Z (.d (zB (la ls j))))):gQ γ M=Z (.d (.list (nP (arr ls j))),M):=by
 unfold gQ
 have B:jS [Z 2,Z 3,Y,Y] γ=[Z (I j),Z (.d (zB (la ls j))),Y,Y]:=by
  simp only[jS,List.map_cons,List.map_nil,u,A,Option.bind_some,Option.getD_some,Option.join_some,Option.bind_none]
 have l:=zQ (g:=kE 2 (bI (hName 2) (bI (hName 3) gW))) (c:=jR (gB (fOp (eqX true) (aB 2) (aB 0))) (gB (fOp (eqX false) (fOp zY (aB 1) (aB 3)) (aB 1)))) (e:=aB 2) (M:=M) (fun k:Nat=>CD.d (.tuple [.int (k:Nat),zB (la ls k)])) (arB ls j) (fun k:Nat=>.int (k:Nat)) (Sh:=fun γ=>∃a b,γ=[Z (I j),Z (.d (zB (la ls j))),a,b]) (List.range ls.length) [Z (I j),Z (.d (zB (la ls j))),Y,Y] ⟨_,_,rfl⟩ (by
  intro k _ γ ⟨a,b,e⟩;subst e;refine⟨[Z (I j),Z (.d (zB (la ls j))),Z (I k),Z (.d (zB (la ls k)))],⟨_,_,rfl⟩,rfl,?_,fun _=>rfl⟩;have C:gB (fOp (eqX true) (aB 2) (aB 0)) [Z (I j),Z (.d (zB (la ls j))),Z (I k),Z (.d (zB (la ls k)))] M=Z (!((k:Int)==(j:Int)),M):=bM (aX rfl rfl aGF);have D:gB (fOp (eqX false) (fOp zY (aB 1) (aB 3)) (aB 1)) [Z (I j),Z (.d (zB (la ls j))),Z (I k),Z (.d (zB (la ls k)))] M=Z ((((bn (la ls j) &&& bn (la ls k):Nat):Int)==((bn (la ls j):Nat):Int)),M):=bM (aX (aX rfl rfl (RE _ _ M)) rfl KI)
  have E:(!((k:Int)==(j:Int)))=decide (k≠j):=by
   rw[S0,A0b,A0j,E5];omega
  have F:(((bn (la ls j) &&& bn (la ls k):Nat):Int)==((bn (la ls j):Nat):Int))=decide ((bn (la ls j) &&& bn (la ls k))=bn (la ls j)):=by
   rw[S0,Z4,E5];omega
  unfold jR;rw[C,A2,E];unfold arB;cases q:decide (k≠j)with
  |false=>rfl
  |true=>rw[A4 rfl,D,F];rfl)
 refine iY (aEu t) (by rw[A0,E8];omega) (by rw[B];exact l) ?_;have:=O6 (arB ls j) (List.range ls.length);rw[E8]at this;show((arr ls j).map _).length<=1000;rw[A0];unfold arr;omega
def aDs{g:Th}(F:Fam ls)(G:ls.length<=900)(D:j<ls.length)(S:SW ls M M' j):
 ∃u M2,eN [Z (.d (sS ls)),Z (.c (M.length+ls.length)),Z (I j),Z (.d (zB (la ls j))),g] M'=Z (.nx u,M2)/\(∃a b c,u=[Z (.d (sS ls)),Z (.c (M.length+ls.length)),a,b,c])/\SW ls M M2 (j+1):=by
 have H:=VQ (γ:=[Z (.d (sS ls)),Z (.c (M.length+ls.length)),Z (I j),Z (.d (zB (la ls j))),g]) (M:=M') G rfl rfl rfl
 have st:∀k,(List.range (j+1)).filter (inB ls k)=if inB ls k j=true then(List.range j).filter (inB ls k)++[j]else(List.range j).filter (inB ls k):=fun k=>by
  rw[List.range_succ,List.filter_append];cases q:inB ls k j with
  |true=>rw[A4 rfl,Y0 q,A0p]
  |false=>rw[B2 A7,U9 (by rw[q];decide),A0p,D8]
 unfold eN;rw[aV (bJ (i:=4) H)];show ∃u M2,sIf _ _ _ [Z (.d (sS ls)),Z (.c (M.length+ls.length)),Z (I j),Z (.d (zB (la ls j))),Z (.d (.list (nP (arr ls j))))] M'=Z (.nx u,M2)/\_;by_cases em:arr ls j=[]
 .have t:LB (aB 4) [Z (.d (sS ls)),Z (.c (M.length+ls.length)),Z (I j),Z (.d (zB (la ls j))),Z (.d (.list (nP (arr ls j))))] M'=Z (false,M'):=by rw[em];rfl
  rw[fR t];refine⟨_,M',rfl,⟨_,_,_,rfl⟩,S.len,S.pre,S.top,fun k B=>?_⟩;rw[S.cs k B,st k,B2];intro q;have:=(inB_any.mp q).1;rw[<- uL F D B]at this;have:k∈arr ls j:=List.mem_filter.mpr ⟨List.mem_range.mpr B,this⟩;rw[em]at this;simp at this
 .have t:LB (aB 4) [Z (.d (sS ls)),Z (.c (M.length+ls.length)),Z (I j),Z (.d (zB (la ls j))),Z (.d (.list (nP (arr ls j))))] M'=Z (true,M'):=by
   cases q:arr ls j with
   |nil=>exact absurd q em
   |cons x r=>rfl
  rw[iP t];obtain⟨K,E⟩:=VX (xs:=cz (arr ls j)) (zs:=ls.map fun l=>((bn l:Nat):Int)) (fun q=>em (List.map_eq_nil_iff.mp q));obtain⟨m,hm,A⟩:=List.mem_map.mp K;have A:FL (cz (arr ls j)) (ls.map fun l=>((bn l:Nat):Int))=(m:Int):=A.symm;rw[A]at E;have lt:m<ls.length:=List.mem_range.mp (List.mem_filter.mp hm).1
  have mk:IA 0 (aA (aB 4) aE) [Z (.d (sS ls)),Z (.c (M.length+ls.length)),Z (I j),Z (.d (zB (la ls j))),Z (.d (.list (nP (arr ls j))))] M'=Z (I m,M'):=by
   show(cN (nP (arr ls j))).bind (fun xs=>(cN (ls.map zB)).bind fun zs=>if 0<xs.length/\xs.all (fun x=>decide (0<=x)&&decide (x<zs.length))=true then Z (CD.d (.int (FL xs zs)),M')else Y)=_;rw[show nP (arr ls j)=(cz (arr ls j)).map .int by rw[B9];rfl,A1g,aBp,A1g,A2,A2,A,A4];refine⟨?_,?_⟩
   .rw[A0];exact List.length_pos_iff.mpr em
   .rw[Z3];intro x C;obtain⟨y,N,rfl⟩:=List.mem_map.mp C;have:=List.mem_range.mp (List.mem_filter.mp N).1;rw[A0,C7 (by omega),C7 (by omega)];rfl
  have ix:ixF (.c (M.length+ls.length)) (I m) M'=Z (.c (M.length+m),M'):=by
   simp only[ixF,S.top];rw[iR (x:=CD.c (M.length+m)) (by rw[D6,A0i lt];rfl)];rfl
  have ty:tyB "list" M' (.c (M.length+m))=true:=by simp only[tyB,S.cs m lt];decide
  have O:bW (.c (M.length+m)) [I j] M'=Z (.d .none,M'.set (M.length+m) (.lst (nI ((List.range j).filter (inB ls m)++[j])))):=by
   have l:(nI ((List.range j).filter (inB ls m))).length<sizeLine:=by
    have:=O6 (inB ls m) (List.range j);rw[E8]at this;rw[A0,S7];omega
   simp only[bW,S.cs m lt,if_pos l,nI,List.map_append,List.map_singleton]
  refine⟨[Z (.d (sS ls)),Z (.c (M.length+ls.length)),Z (I j),Z (.d (zB (la ls j))),Z (.d (.list (nP (arr ls j))))],M'.set (M.length+m) (.lst (nI ((List.range j).filter (inB ls m)++[j]))),?_,⟨_,_,_,rfl⟩,?_⟩
  .have P:bL "list" bW (fOp ixF (aB 1) (IA 0 (aA (aB 4) aE))) (aA (aB 2) aE) [Z (.d (sS ls)),Z (.c (M.length+ls.length)),Z (I j),Z (.d (zB (la ls j))),Z (.d (.list (nP (arr ls j))))] M'=Z (.d .none,M'.set (M.length+m) (.lst (nI ((List.range j).filter (inB ls m)++[j])))):=by
    unfold bL;rw[aX rfl mk ix,A2];dsimp only;rw[A4 ty,aF (x:=I j) rfl aI,A2];exact O
   unfold eZ;rw[P];rfl
  .refine⟨by rw[U2];exact S.len,fun i hi=>by rw[D5 (by omega)];exact S.pre i hi,by rw[D5 (by omega)];exact S.top,fun k B=>?_⟩
   have wi:=MQ F D B hm (fun x C=>by
    have:=E x (List.mem_map.mpr ⟨x,C,rfl⟩);rw[E3,E3,PY,PY]at this;omega)
   by_cases q:m=k
   .subst q;rw[E2 (by rw[S.len];omega),st m,A4 (wi.mp rfl)]
   .rw[D5 (by omega),st k,B2 fun z=>q (wi.mpr z)];exact S.cs k B
def WO{ls:T0}(B:ls.length<=900):∃M',gO [Z (.d (sS ls)),Y,Y,Y,Y] M=Z (.c (M.length+ls.length),M')/\SW ls M M' 0:=by
 have u:∀(xs:T6)(γ:Ga)(M:Sto),(∃g,γ=[g])->lcF (hName 0) cF (dS aE) (xs.map .d) γ M=Z ((List.range' M.length xs.length).map CD.c,M++List.replicate xs.length (.lst [])):=by
  intro xs
  induction xs with
  |nil=>intro γ M _;show Z (([]:T8),M)=Z ([],M++[]);rw[D8]
  |cons x xs ih=>
   intro γ M ⟨g,e⟩;subst e
   have A:dS aE [Z (.d x)] M=Z (.c M.length,M++[.lst []]):=by
    show(if 0<=sizeLine then Z (CD.c M.length,M++[.lst []])else Y)=_;rw[A4 (E9 _)]
   show((dS aE [Z (.d x)] M).bind fun t=>(lcF (hName 0) cF (dS aE) (xs.map .d) [Z (.d x)] t.2).bind fun q=>Z (t.1::q.1,q.2))=_;rw[A,A2];dsimp only;rw[ih _ _ ⟨_,rfl⟩,A2,A6,E7,F0,L7,List.range'_succ,B6,List.replicate_succ];rfl
 have l:=u (ls.map zB) [Y] M ⟨_,rfl⟩;rw[A0]at l;have it:aY (aB 0) [Z (.d (sS ls)),Y,Y,Y,Y] M=Z ((ls.map zB).map .d,M):=fA rfl rfl
 refine⟨_,by
  unfold gO;have:=FF (cap:=[Y]) it (by rw[A0,A0];omega) l (by rw[A0,List.length_range'];omega);rw[A6,Y4]at this;exact this,⟨?_,fun i hi=>?_,?_,fun k C=>?_⟩⟩
 .rw[A6,A6,Y4,E7]
 .rw[F0,E6 hi]
 .rw[F5 (by rw[A6,Y4];exact B4 _),A6,Y4,A0h,List.range'_eq_map_range,B9];rfl
 .rw[F0,F5 (by omega),E6 (by rw[Y4];omega),List.getElem?_replicate,A4 (by omega)];rfl
def aBk(F:Fam ls)(t:ls.length<=900):∃M',iH [.d (sS ls)] M=Z (.c (M.length+ls.length),M')/\SW ls M M' ls.length:=by
 obtain⟨M1,A,B⟩:=WO (M:=M) t
 obtain⟨C,M2,u,⟨a,b,c,e⟩,D⟩:=yJ (g:=kE 2 (bI (hName 2) (bI (hName 3) gW))) (b:=eN) (f:=fun j:Nat=>.d (.tuple [.int (j:Nat),zB (la ls j)])) (n:=ls.length) (Inv:=fun j γ M'=>(∃a b c,γ=[Z (.d (sS ls)),Z (.c (M.length+ls.length)),a,b,c])/\SW ls M M' j) (by
  intro j E γ M' ⟨⟨a,b,c,e⟩,S⟩;subst e;obtain⟨q,M2,G,H,I⟩:=aDs (g:=c) F t E S;exact⟨_,_,q,M2,rfl,G,H,I⟩) ls.length 0 [Z (.d (sS ls)),Z (.c (M.length+ls.length)),Y,Y,Y] M1 (A1k _) ⟨⟨_,_,_,rfl⟩,B⟩
 subst e;rw[<- A1e]at u;refine⟨M2,eG rfl ?_,D⟩;show aZ _ _ [Z (.d (sS ls)),Y,Y,Y,Y] M=_;rw[aV (bJ (i:=1) A)];show aZ _ _ [Z (.d (sS ls)),Z (.c (M.length+ls.length)),Y,Y,Y] M1=_;rw[aV (cW (aEu (i:=0) rfl) u)];rfl
def SW.app(S:SW ls M M' j):∃L,M'=M++L:=by
 refine⟨M'.drop M.length,A0u fun i=>?_⟩;by_cases h:i<M.length
 .rw[E6 h,S.pre i h]
 .rw[F5 (by omega),List.getElem?_drop];congr 1;omega
def aHG(h:M[c]?=Z (cI b)):eqY true (.d (.list (a.map .int))) (.c c) M=Z (B (pd (a≠b)),M):=by
 have q:eqX true (.d (.list (a.map .int))) (.c c) M=Y:=rfl;have s1:snap 5 M (.d (.list (a.map .int)))=Z (.list (a.map .int)):=by rw[vP]
 have s2:snap 5 M (.c c)=Z (.list (b.map .int)):=by
  unfold snap;rw[h];show(jW 4 M (b.map fun i=>I i)).bind _=_;rw[pE];rfl
 have t:eqC true (.d (.list (a.map .int))) (.c c) M=Z (B (pd (a≠b)),M):=by
  unfold eqC;rw[s1,s2,A2,A2,nR,nR,A4 (show(true&&true)=true from rfl)];show Z (CD.d (.bool (!PyData.eqvAll (a.map .int) (b.map .int))),M)=_;rw[rH];refine C9 (fun z=>Z (B z,M)) (fY ?_);rw[A0b,decide_eq_false_iff_not]
 unfold eqY EZ;rw[q];exact t
def QM{ls:T0}(e:ds.map dB=ls.map Z)(t:j<ls.length):∃x,ds[j]?=Z x/\aJ x=Z ((la ls j).map .int):=by
 have h:=C9 (fun z=>z[j]?) e;simp only[List.getElem?_map]at h;rw[B1 t]at h;cases q:ds[j]? with
 |none=>rw[q]at h;cases h
 |some x=>
  rw[q]at h;refine⟨x,rfl,rowI_iff.mp ?_⟩;rw[la,A8,B1 t];exact D7 h
def VB{a:Ub}{ls:T0}{g:EF}{j:Int}(ha:aJ a=Z ds)(e:ds.map dB=ls.map Z)(A:0<=j/\j<(ls.length:Int))(q:f γ M=Z (.d a,M))(t:g γ M=Z (I j,M)):aH bN (aA (fOp ixF f g) aE) γ M=Z (I ((la ls j.toNat).length:Nat),M):=by
 obtain⟨m,rfl⟩:∃m:Nat,j=(m:Int):=⟨j.toNat,by omega⟩;obtain⟨x,u,hi⟩:=QM e (j:=m) (by omega);have l:=fG hi M;rw[A0]at l;exact aK (aF (aX q t (iB ha (iR u))) aI) l
def sum_ints{q:Type}{f:q->Nat}(l:Tx q):sumF [.d (.list (l.map fun p=>.int (f p:Nat)))] M=Z (I ((l.map f).sum:Nat),M):=by
 show(cN (l.map fun p=>PyData.int (f p:Nat))).bind _=_;rw[show(l.map fun p=>PyData.int (f p:Nat))=(l.map fun p=>((f p:Nat):Int)).map .int by rw[B9];rfl,A1g,A2];refine C9 (fun z:Int=>Z (I z,M)) ?_
 induction l with
 |nil=>rfl
 |cons p l ih=>rw[B6,B6,A0n,A0n,ih,Int.natCast_add]
def SN{ls:T0}{a:Ub}(ha:aJ a=Z ds)(e:ds.map dB=ls.map Z)(hk:k<ls.length)(N:M[c]?=Z (cI (cz (inn ls k))))(E:Wi 1 o):rS [.d a,.c c,I k,.d o] M=Z (B (pd (∃os,dB o=Z os/\RgP ls k os)),M):=by
 have O:ds.length=ls.length:=(lC e).symm
 have H:gOr (cB (gB (aH fZ (aA (aB 3) aE)))) (gOr (cB (gB (aH kT (aA qS aE)))) (gB (fOp (eqY true) (aH jA (aA (aB 3) aE)) (aB 1)))) [Z (.d a),Z (.c c),Z (I k),Z (.d o)] M=Z (pd ((¬∃xs,aJ o=Z xs)\/((¬∃os,dB o=Z os/\∀j∈os,0<=j/\j<(ls.length:Int))\/∀os,dB o=Z os->dW os≠cz (inn ls k))),M):=by
  refine zE (eQ (bM ?_)) fun h=>zE (eQ (bM ?_)) fun u=>bM ?_
  .rw[<- pJ];exact uX o M
  .rw[A0c]at h;obtain⟨xs,D⟩:=h
   have al:=zU (i:=1) (cap:=[Z 0,Y]) (f:=aB 3) (e:=aH cR (aA (aH bN (aA (aB 0) aE)) (aA (aB 1) aE))) (γ:=[Z (.d a),Z (.c c),Z (I k),Z (.d o)]) (M:=M) rfl D (by have:=(E xs D).1;omega) (P:=fun x=>∃i,x=.int i/\0<=i/\i<(ls.length:Int)) fun x _=>by
    rw[<- NK,<- O];exact aK (aF (aK (aF rfl aI) (fG ha M)) (aF rfl aI)) (tQ _ x M)
   rw[show qS=fLc [Z 0,Y] (aY (aB 3)) (hName 1) cF (aH cR (aA (aH bN (aA (aB 0) aE)) (aA (aB 1) aE)))from rfl,al];refine C9 (fun b=>Z (B b,M)) (cA ⟨fun h=>?_,fun⟨os,t,u⟩ x F=>?_⟩)
   .obtain⟨os,rfl,Q⟩:=all_ints h;exact⟨os,rowI_iff.mpr D,Q⟩
   .have t:=rowI_iff.mp t;rw[D]at t;cases t;obtain⟨j,G,rfl⟩:=List.mem_map.mp F;exact⟨j,rfl,u j G⟩
  .rw[A0c]at u;obtain⟨os,t,u⟩:=u;have hi:=rowI_iff.mp t;have so:=uK (M:=M) hi (by have:=(E _ hi).1;rwa [A0]at this);rw[aX (aK (aF rfl aI) so) rfl (aHG N)];refine C9 (fun b=>Z (B b,M)) (cA ⟨fun h A C=>?_,fun h=>h os t⟩);rw[t]at C;cases C;exact h
 refine eG rfl ?_;show aZ _ _ [Z (.d a),Z (.c c),Z (I k),Z (.d o)] M=_;rcases F4 ((¬∃xs,aJ o=Z xs)\/((¬∃os,dB o=Z os/\∀j∈os,0<=j/\j<(ls.length:Int))\/∀os,dB o=Z os->dW os≠cz (inn ls k)))with p|p
 .rw[kZ H p];refine C9 (fun b=>Z (Out.rt (B b),M)) (fV fun⟨os,t,r⟩=>?_).symm;rcases p with p|p|p
  .exact p ⟨_,rowI_iff.mp t⟩
  .exact p ⟨os,t,r.o⟩
  .exact p os t r.so
 .rw[lD H p];have R:∃os,dB o=Z os/\∀j∈os,0<=j/\j<(ls.length:Int):=E1 fun q=>p (.inr (.inl q));obtain⟨os,t,u⟩:=R;have S:dW os=cz (inn ls k):=E1 fun q=>p (.inr (.inr fun A h'=>by rw[t]at h';cases h';exact q));have hi:=rowI_iff.mp t;have T:=(E _ hi).1;rw[A0]at T;have lo:=fG hi M;rw[A0]at lo
  have U:fOp geI (aH bN (aA (aB 3) aE)) (fC (.int 3)) [Z (.d a),Z (.c c),Z (I k),Z (.d o)] M=Z (B (pd (3<=os.length)),M):=by
   rw[aX (aK (aF rfl aI) lo) rfl (show geI (I os.length) (I 3) M=Z (B (decide ((3:Int)<=os.length)),M)from rfl)];refine C9 (fun b=>Z (B b,M)) (fY ?_);rw[E5];omega
  have V:3<=os.length->fOp ltI (fOp ixF (aB 3) (fC (.int 0))) (fOp ixF (aB 3) (fUn rX (fC (.int 1)))) [Z (.d a),Z (.c c),Z (I k),Z (.d o)] M=Z (B (pd (os.getD 0 0<os.getD (os.length-1) 0)),M):=fun K=>by
   rw[aX (aX rfl rfl (IR hi (by omega))) (aX rfl aFw (PU hi (by omega))) (show ltI (I (os.getD 0 0)) (I (os.getD (os.length-1) 0)) M=Z (B (decide (os.getD 0 0<os.getD (os.length-1) 0)),M)from rfl)];exact C9 (fun b=>Z (B b,M)) (fY decide_eq_true_iff)
  have W:mK [Z (.d a),Z (.c c),Z (I k),Z (.d o)] M=Z (.d (.list (os.map fun j=>.int ((la ls j.toNat).length:Nat))),M):=by
   have it:aY (aB 3) [Z (.d a),Z (.c c),Z (I k),Z (.d o)] M=Z (os.map (fun j=>I j),M):=by
    rw[fA (f:=aB 3) (γ:=[Z (.d a),Z (.c c),Z (I k),Z (.d o)]) (M:=M) rfl hi,B9];rfl
   have X:=nS (i:=1) (e:=aH bN (aA (fOp ixF (aB 0) (aB 1)) aE)) (γ0:=[Z (.d a),Y]) (M:=M) (fun j:Int=>I j) (fun j=>.int ((la ls j.toNat).length:Nat)) os fun j G=>VB ha e (u j G) rfl rfl;unfold mK;exact iY it (by rw[A0];omega) X (by rw[A0];omega)
  have t3:fOp (eqX false) (aH sumF (aA mK aE)) (aH bN (aA (fOp ixF (aB 0) (aB 2)) aE)) [Z (.d a),Z (.c c),Z (I k),Z (.d o)] M=Z (B (pd ((os.map fun j=>(la ls j.toNat).length).sum=(la ls k).length)),M):=by
   have lk:=VB (f:=aB 0) (g:=aB 2) (γ:=[Z (.d a),Z (.c c),Z (I k),Z (.d o)]) (M:=M) (j:=(k:Int)) ha e (by omega) rfl rfl;rw[E3]at lk;rw[aX (aK (aF W aI) (sum_ints (f:=fun j=>(la ls j.toNat).length) os)) lk KI];refine C9 (fun b=>Z (B b,M)) (fY ?_);rw[Z4];omega
  rw[fF (tK U fun K=>tK (V K) fun _=>t3)];refine C9 (fun b=>Z (Out.rt (B b),M)) (cA ⟨fun⟨q1,q2,q3⟩=>⟨os,t,⟨by omega,u,by rw[E3];exact S,q1,q2,by rw[E3];exact q3⟩⟩,fun⟨A,h',r⟩=>?_⟩);rw[t]at h';cases h';have:=r.sm;rw[E3]at this;exact⟨r.three,r.hd,this⟩
def RD{g:EF}{P:Prop}(h:f γ M=Z (B (pd P),M))(t:P->∃L,g γ M=Z (B (pd Q),M++L)):∃L,eS f g γ M=Z (B (pd (P/\Q)),M++L):=by
 unfold eS;rw[h,A2];dsimp only[asB];rw[A2];rcases F4 P with p|p
 .obtain⟨L,e⟩:=t p;exact⟨L,by rw[kJ p,A4 rfl,e,cA (show Q↔P/\Q from⟨fun q=>⟨p,q⟩,fun q=>q.2⟩)]⟩
 .exact⟨[],by rw[fV p,B2 A7,fV fun q=>p q.1,D8]⟩
def koI(d:Ub):Tz (Int×Ub):=match aJ d with
 |some [.int k,o]=>Z (k,o)
 |_=>Y
def koI_iff{k:Int}:koI d=Z (k,o)↔aJ d=Z [.int k,o]:=by
 unfold koI;constructor
 .intro h;split at h
  .rename_i k' o' e;cases h;exact e
  .cases h
 .intro h;rw[h]
def CJ(x:Ub):LH x 2=pd (∃a b,aJ x=Z [a,b]):=by
 refine fY ?_;unfold LH;cases q:aJ x with
 |none=>exact⟨fun h=>by simp at h,fun⟨a,b,h⟩=>by cases h⟩
 |some ds=>
  dsimp only;rw[Z4];constructor
  .intro h;obtain⟨a,b,e⟩:=yM (show ds.length=2 by omega);exact⟨a,b,by rw[e]⟩
  .intro ⟨a,b,h⟩;cases h;rfl
def aDf{x:Ub}{a b:Ub}{u v w z:Th}(h:aJ x=Z [a,b]):qM 2 (bI (hName 2) (bI (hName 3) gW)) (.d x) [u,v,w,z] M=Z ([u,v,Z (.d a),Z (.d b)],M):=by
 cases x with
 |list xs=>cases h;rfl
 |tuple xs=>cases h;rfl
 |_=>cases h
def IF{ls:T0}{a b:Ub}(hn:n<=40)(ha:aJ a=Z ds)(e:ds.map dB=ls.map Z)(hl:ls.length<64)(ln:LnP n ls)(hw:Wi 3 b):∃L,jQ [.d a,.d b] M=Z (B (pd (∃rs,kF b=Z rs/\RsP ls rs)),M++L):=by
 have ll:ds.length=ls.length:=(lC e).symm
 have c0:gOr (cB (gB (aH fZ (aA (aB 1) aE)))) (cB (gB (aH kT (aA mX aE)))) [Z (.d a),Z (.d b),Y] M=Z (pd ((¬∃xs,aJ b=Z xs)\/¬∃xs,aJ b=Z xs/\∀x∈xs,∃p,koI x=Z p/\0<=p.1/\p.1<(ls.length:Int)),M):=by
  refine zE (eQ (bM ?_)) fun h=>eQ (bM ?_)
  .rw[<- pJ];exact uX b M
  .rw[A0c]at h;obtain⟨xs,C⟩:=h
   have al:=zU (i:=1) (cap:=[Z 0,Y]) (f:=aB 1) (e:=eS (aH fW (aA (aB 1) (aA (fC (.int 2)) aE))) (aH cR (aA (aH bN (aA (aB 0) aE)) (aA (fOp ixF (aB 1) (fC (.int 0))) aE)))) (γ:=[Z (.d a),Z (.d b),Y]) (M:=M) rfl C (by have:=(hw xs C).1;omega) (P:=fun x=>(∃a b,aJ x=Z [a,b])/\∃p,koI x=Z p/\0<=p.1/\p.1<(ls.length:Int)) fun x _=>by
    refine tK ?_ fun⟨y,z,H⟩=>?_
    .rw[<- CJ];exact aK (aF rfl (aF rfl aI)) (xE x 2 M)
    .have pl:=tQ (ls.length:Int) y M;rw[NK]at pl;have r:=aK (F:=cR) (fa:=aA (aH bN (aA (aB 0) aE)) (aA (fOp ixF (aB 1) (fC (.int 0))) aE)) (γ:=[Z (.d a),Z (.d x)]) (M:=M) (xs:=[I (ls.length:Int),.d y]) (aF (aK (aF rfl aI) (by rw[<- ll];exact fG ha M)) (aF (aX rfl rfl (iB H (FS _ _))) aI)) pl;refine r.trans (C9 (fun b=>Z (B b,M)) (cA ⟨fun⟨i,E,K⟩=>?_,fun⟨p,E,K⟩=>?_⟩))
     .subst E;exact⟨(i,z),koI_iff.mpr H,K⟩
     .have:=koI_iff.mp (show koI x=Z (p.1,p.2)from E);rw[H]at this;cases this;exact⟨p.1,rfl,K⟩
   rw[show mX=fLc [Z 0,Y] (aY (aB 1)) (hName 1) cF (eS (aH fW (aA (aB 1) (aA (fC (.int 2)) aE))) (aH cR (aA (aH bN (aA (aB 0) aE)) (aA (fOp ixF (aB 1) (fC (.int 0))) aE))))from rfl,al];refine C9 (fun b=>Z (B b,M)) (cA ⟨fun h=>⟨xs,C,fun x t=>(h x t).2⟩,fun⟨ys,E,K⟩ x t=>?_⟩);rw[C]at E;cases E;obtain⟨p,A,h4⟩:=K x t;exact⟨⟨_,_,koI_iff.mp (show koI x=Z (p.1,p.2)from A)⟩,p,A,h4⟩
 rcases F4 ((¬∃xs,aJ b=Z xs)\/¬∃xs,aJ b=Z xs/\∀x∈xs,∃p,koI x=Z p/\0<=p.1/\p.1<(ls.length:Int))with p|p
 .refine⟨[],eG rfl ?_⟩;show aZ _ _ [Z (.d a),Z (.d b),Y] M=_;rw[kZ c0 p,D8];refine C9 (fun b=>Z (Out.rt (B b),M)) (fV fun⟨rs,E,r⟩=>?_).symm;obtain⟨xs,C,q⟩:=ringsI_iff.mp E;refine p.elim (fun p=>p ⟨xs,C⟩) fun p=>p ⟨xs,C,fun x t=>?_⟩;obtain⟨G,Q,q'⟩:=(kX q).1 x t;obtain⟨o,A,h4⟩:=ringI_iff.mp (show fB x=Z (G.1,G.2)from q');exact⟨(G.1,o),koI_iff.mpr A,(r.rg G Q).k0⟩
 .have p2:∃xs,aJ b=Z xs/\∀x∈xs,∃p,koI x=Z p/\0<=p.1/\p.1<(ls.length:Int):=E1 fun q=>p (.inr q);obtain⟨xs,C,N⟩:=p2;obtain⟨a0,U⟩:=hw xs C;obtain⟨O,D,a1⟩:=uN (f:=koI) (P:=fun p=>0<=p.1/\p.1<(ls.length:Int)) N;have a2:=lC D;have bt:=EW (i:=0) (cap:=[Y]) (f:=aB 0) (γ:=[Z (.d a),Z (.d b),Y]) (M:=M) rfl rfl ha e (by omega) ln.lk hn;obtain⟨M1,ew,S⟩:=aBk (M:=M) ln.fam (by omega);obtain⟨L,hL⟩:=S.app;refine⟨L,eG rfl ?_⟩;show aZ _ _ [Z (.d a),Z (.d b),Y] M=_;rw[lD c0 p,aV (bJ (i:=2) (aK (aF (show sL _ _=_ from bt) aI) ew)),<- hL];show cD _ [Z (.d a),Z (.d b),Z (.c (M.length+ls.length))] M1=_
  have r3:jI [Z (.d a),Z (.d b),Z (.c (M.length+ls.length))] M1=Z (.d (.list ((O.map (·.1)).map .int)),M1):=by
   have m:=vT (i:=0) (cap:=[Y]) (f:=aB 1) (e:=fOp ixF (aB 0) (fC (.int 0))) (γ:=[Z (.d a),Z (.d b),Z (.c (M.length+ls.length))]) (M:=M1) (h:=fun x=>match koI x with|some p=>.int p.1|none=>.none) rfl C (by omega) fun x t=>by
    obtain⟨p,A,h4⟩:=N x t;rw[A];exact aX rfl rfl (iB (koI_iff.mp (show koI x=Z (p.1,p.2)from A)) (FS _ _))
   unfold jI;rw[m,jL (k:=fun p=>PyData.int p.1) (fun x l q=>by rw[q]) D,B9];rfl
  have t1:aH eB (aA jI aE) [Z (.d a),Z (.d b),Z (.c (M.length+ls.length))] M1=Z (B (pd (Up (O.map (·.1)))),M1):=aK (aF r3 aI) (YG rfl (by rw[A0];omega))
  have t2:aH kT (aA jO aE) [Z (.d a),Z (.d b),Z (.c (M.length+ls.length))] M1=Z (B (pd (∀p∈O,∃os,dB p.2=Z os/\RgP ls p.1 os)),M1):=by
   have it:aY (aB 1) [Z (.d a),Z (.d b),Z (.c (M.length+ls.length))] M1=Z (xs.map .d,M1):=fA rfl C
   have lc:=zQ (g:=qM 2 (bI (hName 2) (bI (hName 3) gW))) (c:=cF) (e:=aH rS (aA (aB 0) (aA (fOp ixF (aB 1) (aB 2)) (aA (aB 2) (aA (aB 3) aE))))) (M:=M1) CD.d (fun _=>true) (fun x=>match koI x with|some p=>.bool (pd (∃os,dB p.2=Z os/\RgP ls p.1 os))|none=>.none) (Sh:=fun γ=>∃u v,γ=[Z (.d a),Z (.c (M.length+ls.length)),u,v]) xs [Z (.d a),Z (.c (M.length+ls.length)),Y,Y] ⟨_,_,rfl⟩ (by
    intro x t γ ⟨u,v,V⟩;subst V;obtain⟨⟨k,o⟩,A,h4⟩:=N x t;have hi:=koI_iff.mp A;refine⟨_,⟨_,_,rfl⟩,aDf hi,rfl,fun _=>?_⟩;rw[A];obtain⟨m,rfl⟩:∃m:Nat,k=(m:Int):=⟨k.toNat,by have:=h4.1;dsimp only at this;omega⟩;have hm:m<ls.length:=by have:=h4.2;dsimp only at this;omega
    have ix:ixF (.c (M.length+ls.length)) (I m) M1=Z (.c (M.length+m),M1):=by
     simp only[ixF,S.top];rw[iR (x:=CD.c (M.length+m)) (by rw[D6,A0i hm];rfl)];rfl
    have wo:Wi 1 o:=by
     intro ys T;exact⟨((U x t _ hi).2 o (by simp) ys T).1,fun _ _=>trivial⟩
    refine aK (aF rfl (aF (aX rfl rfl ix) (aF rfl (aF rfl aI)))) (SN ha e hm ?_ wo);rw[S.cs m hm];show Z (Cell.lst (nI (inn ls m)))=Z (Cell.lst ((cz (inn ls m)).map fun i=>I i));rw[B9];rfl)
   have cp:jO [Z (.d a),Z (.d b),Z (.c (M.length+ls.length))] M1=Z (.d (.list (O.map fun p=>.bool (pd (∃os,dB p.2=Z os/\RgP ls p.1 os)))),M1):=by
    rw[List.filter_eq_self.mpr fun _ _=>rfl,jL (k:=fun p:Int×Ub=>PyData.bool (pd (∃os,dB p.2=Z os/\RgP ls p.1 os))) (fun x l q=>by rw[q]) D]at lc;unfold jO;exact iY it (by rw[A0];omega) lc (by rw[A0];omega)
   refine aK (aF cp aI) ?_;rw[all_map' (f:=fun p:Int×Ub=>pd (∃os,dB p.2=Z os/\RgP ls p.1 os))];refine C9 (fun b=>Z (B b,M1)) (fY ?_);rw[Z3];exact⟨fun h x C=>pd_iff.mp (h x C),fun h x C=>pd_iff.mpr (h x C)⟩
  rw[fF (tK t1 fun _=>t2)];refine C9 (fun b=>Z (Out.rt (B b),M1)) (cA ⟨fun⟨E,K⟩=>?_,fun⟨rs,E,r⟩=>?_⟩)
  .obtain⟨rs,R,W⟩:=uN (f:=fun p:Int×Ub=>(dB p.2).bind fun os=>Z (p.1,os)) (P:=fun r=>RgP ls r.1 r.2) (ds:=O) fun p X=>by
    obtain⟨os,A,h4⟩:=K p X;exact⟨(p.1,os),by rw[A];rfl,h4⟩
   refine⟨rs,ringsI_iff.mpr ⟨xs,C,?_⟩,W,?_⟩
   .rw[<- R]
    exact jL (f:=koI) (h:=fB) (k:=fun p:Int×Ub=>(dB p.2).bind fun os=>Z (p.1,os)) (fun x p q=>by
     have:=koI_iff.mp (show koI x=Z (p.1,p.2)from q);unfold fB;rw[this]) D
   .have:=jL (f:=fun p:Int×Ub=>(dB p.2).bind fun os=>Z (p.1,os)) (h:=fun p=>p.1) (k:=fun r=>r.1) (fun x l q=>by
     obtain⟨os,_,h⟩:=Option.bind_eq_some_iff.mp q;cases h;rfl) R
    rw[<- this];exact E
  .obtain⟨ys,T,q⟩:=ringsI_iff.mp E;rw[C]at T;cases T
   have kr:∀x∈xs,∀r,fB x=Z r->∃o,koI x=Z (r.1,o)/\dB o=Z r.2:=fun x _ r Q=>by
    obtain⟨o,A,h4⟩:=ringI_iff.mp (show fB x=Z (r.1,r.2)from Q);exact⟨o,koI_iff.mpr A,h4⟩
   have e1:xs.map (fun x=>match koI x with|some p=>p.1|none=>0)=O.map (·.1):=jL (fun x l q=>by rw[q]) D
   have e2:xs.map (fun x=>match koI x with|some p=>p.1|none=>0)=rs.map (·.1):=jL (fun x l q=>by
    obtain⟨o,A,h4⟩:=ringI_iff.mp (show fB x=Z (l.1,l.2)from q);rw[koI_iff.mpr A]) q
   refine⟨by rw[<- e1,e2];exact r.up,fun p X=>?_⟩;obtain⟨x,t,A⟩:=(kX D).2 p X;obtain⟨G,Q,h4⟩:=(kX q).1 x t;obtain⟨o,h5,h6⟩:=kr x t G h4;rw[A]at h5;cases h5;exact⟨G.2,h6,r.rg G Q⟩
def Wi.less:∀{m:Nat}{d:Ub},Wi (m+1) d->Wi m d
 |0,_=>fun _=>trivial
 |m+1,_=>fun h=>fun ds hd=>⟨(h ds hd).1,fun x q=>((h ds hd).2 x q).less⟩
def BL(hn:n<=40)(K:Wi 4 d):∃L,lY [I n,.d d] M=Z (B (pd (ChD n d)),M++L):=by
 have O:aH fW (aA (aB 1) (aA (fC (.int 2)) aE)) [Z (I n),Z (.d d)] M=Z (B (pd (∃a b,aJ d=Z [a,b])),M):=by
  rw[<- CJ];exact aK (aF rfl (aF rfl aI)) (xE d 2 M)
 obtain⟨L,h⟩:=RD (g:=eS (aH jV (aA (aB 0) (aA (fOp ixF (aB 1) (fC (.int 0))) aE))) (aH jQ (aA (fOp ixF (aB 1) (fC (.int 0))) (aA (fOp ixF (aB 1) (fC (.int 1))) aE)))) (Q:=ChD n d) O fun⟨a,b,hd⟩=>by
  have N:=(K _ hd).2 a (by simp);have P:=(K _ hd).2 b (by simp);have D:fOp ixF (aB 1) (fC (.int 0)) [Z (I n),Z (.d d)] M=Z (.d a,M):=aX rfl rfl (iB hd (FS _ _));have E:fOp ixF (aB 1) (fC (.int 1)) [Z (I n),Z (.d d)] M=Z (.d b,M):=aX rfl rfl (iB hd (YM _ _ _));have R:=aK (F:=jV) (fa:=aA (aB 0) (aA (fOp ixF (aB 1) (fC (.int 0))) aE)) (γ:=[Z (I n),Z (.d d)]) (aF rfl (aF D aI)) (JW (M:=M) hn N.less)
  obtain⟨L,h⟩:=RD (g:=aH jQ (aA (fOp ixF (aB 1) (fC (.int 0))) (aA (fOp ixF (aB 1) (fC (.int 1))) aE))) (Q:=∃ls rs,jZ a=Z ls/\kF b=Z rs/\RsP ls rs) R fun⟨ls,A,ln⟩=>by
   obtain⟨ds,ha,e⟩:=linksI_iff.mp A;obtain⟨L,h⟩:=IF (M:=M) (b:=b) hn ha e (by rw[lC e];exact(N ds ha).1) ln P;refine⟨L,(aK (aF D (aF E aI)) h).trans (C9 (fun b=>Z (B b,M++L)) (cA ⟨fun⟨rs,t,u⟩=>⟨ls,rs,A,t,u⟩,fun⟨G,rs,t,u,C⟩=>?_⟩))⟩;rw[A]at t;cases t;exact⟨rs,u,C⟩
  refine⟨L,h.trans (C9 (fun b=>Z (B b,M++L)) (cA ⟨fun⟨⟨ls,t,u⟩,G,rs,C,h4,H⟩=>?_,fun⟨S,T,ls,rs,t,u,C,h4,H⟩=>?_⟩))⟩
  .rw[t]at C;cases C;exact⟨a,b,ls,rs,hd,t,u,h4,H⟩
  .rw[hd]at t;cases t;exact⟨⟨ls,u,C⟩,ls,rs,u,h4,H⟩
 refine⟨L,eG rfl (fF (h.trans (C9 (fun b=>Z (B b,M++L)) (cA ⟨fun q=>q.2,fun q=>⟨?_,q⟩⟩))))⟩;obtain⟨a,b,_,_,t,_⟩:=q;exact⟨a,b,t⟩
noncomputable abbrev rI(l:T9):T6:=l.map .int
def JR(ls:T0)(i:Nat):(ls.map rI).getD i []=rI (la ls i):=by
 unfold la;rw[A8,A8,D6];cases ls[i]?<;>rfl
def xJ:∀l:T9,dR (rI l)=true
 |[]=>rfl
 |i::l=>by show(true&&dR (rI l))=true;rw[xJ l];rfl
def aGi{ls:T0}(h:∀l∈ls,l≠[])(u:2<=ls.length)(q:ls.length<64):sortable (ls.map rI)=true:=by
 have hd:(nW (ls.map rI) || uB (ls.map rI))=true:=by
  rw[Bool.or_eq_true];refine .inl ?_;unfold nW;rw[List.all_map];refine List.all_eq_true.mpr fun l A=>?_;cases l with
  |nil=>exact absurd rfl (h _ A)
  |cons x r=>rfl
 unfold sortable;rw[A0,C7 u,C7 q,hd,Bool.true_and,Bool.true_and,Bool.and_true,B8];refine⟨List.all_eq_true.mpr fun r B=>?_,List.all_eq_true.mpr fun i hi=>List.all_eq_true.mpr fun j C=>?_⟩
 .obtain⟨t,_,rfl⟩:=List.mem_map.mp B;rw[yE,xJ];rfl
 .rw[JR,JR,FY];rfl
def XW(ls:T0)(i j:Nat):jF (ls.map rI) i j=lex (la ls i) (la ls j):=by
 unfold jF;rw[JR,JR,FY];rfl
def WK(ls:T0):(List.range ls.length).map (la ls)=ls:=by
 refine A0u fun i=>?_;rw[D6];by_cases h:i<ls.length
 .rw[A0i h,B1 h];show Z (la ls i)=_;rw[la,A8,B1 h];rfl
 .rw[A0a (by rw[E8];omega),A0a (by omega)];rfl
def LA{ls:T0}(q:0<ls.length):∃vs:T0,vs.Perm ls/\KU (ls.map rI)=vs.map tR/\vs=(iJ (jF (ls.map rI)) ls.length).map (la ls):=by
 have pm:=mO (n:=ls.length) (jF (ls.map rI)) q;refine⟨(iJ (jF (ls.map rI)) ls.length).map (la ls),?_,?_,rfl⟩
 .have:=pm.map (la ls)
  rwa [WK]at this
 .unfold KU;rw[A0,B9];refine Z2 fun i _=>?_;show PyData.tuple ((ls.map rI).getD i [])=tR (la ls i);rw[JR]
def DK{ls:T0}(h:∀l∈ls,l≠[])(B:2<=ls.length)(t:ls.length<64):∃vs:T0,vs.Perm ls/\(vs.Pairwise fun a b=>lex b a=false)/\KU (ls.map rI)=vs.map tR:=by
 obtain⟨vs,p,C,e⟩:=LA (ls:=ls) (by omega);refine⟨vs,p,?_,C⟩;have so:=BO (aGi h B t);have pm:=mO (n:=ls.length) (jF (ls.map rI)) (by omega);rw[A0]at so;rw[e,List.pairwise_map,List.pairwise_iff_getElem];have len:(iJ (jF (ls.map rI)) ls.length).length=ls.length:=by rw[pm.length_eq,E8]
 intro a b ha A u
 have g:∀c (q:c<(iJ (jF (ls.map rI)) ls.length).length),(UD (jF (ls.map rI)) (W.kas_sort ls.length)).getD c 0=(iJ (jF (ls.map rI)) ls.length)[c]:=fun c q=>by
  unfold iJ at q ⊢;rw[A1h]at q;simp[Array.getD,q]
 have s1:=so a b u (by rw[<- len];exact A);rw[g a ha,g b A,XW]at s1;exact s1
def HI(ls:T0):rowsOf (ls.map tR)=Z (ls.map rI):=by
 induction ls with
 |nil=>rfl
 |cons t us ih=>
  show(rowsOf (us.map tR)).bind _=_;rw[ih];rfl
def JD{ls:T0}(h:ls.length<2):ls.Pairwise fun a b=>lex b a=false:=by
 match ls,h with
 |[],_=>exact .nil
 |[t],_=>exact U0 _ _
def TV{ls:T0}(h:∀l∈ls,l≠[])(q:ls.length<64):∃vs:T0,vs.Perm ls/\(vs.Pairwise fun a b=>lex b a=false)/\dO [.d (lR ls)] M=Z (.d (lR vs),M):=by
 by_cases t:ls.length<2
 .refine⟨ls,.refl _,JD t,?_⟩;unfold dO
  have:iV [.d (lR ls)] M=Z (.d (lR ls),M):=by
   show(if (ls.map tR).length<2 then _ else _)=_;rw[A4 (by rw[A0];exact t)]
  rw[this]
 .obtain⟨vs,p,s,e⟩:=DK h (by omega) q;refine⟨vs,p,s,?_⟩;unfold dO
  have:iV [.d (lR ls)] M=Y:=by
   show(if (ls.map tR).length<2 then _ else _)=_;rw[B2 (by rw[A0];exact t)]
  rw[this];show(rowsOf (ls.map tR)).bind _=_;rw[HI,A2,aGi h (by omega) q,A4 rfl,e]
def DT{ls:T0}(t:M[c]?=Z (.lst (ls.map fun l=>.d (tR l))))(h:∀l∈ls,l≠[])(q:ls.length<64):∃vs:T0,vs.Perm ls/\(vs.Pairwise fun a b=>lex b a=false)/\dO [.c c] M=Z (.d (lR vs),M):=by
 have al:iU (ls.map fun l=>CD.d (tR l))=Z (ls.map tR):=by
  rw[show(ls.map fun l=>CD.d (tR l))=(ls.map tR).map .d by rw[B9];rfl,eA]
 by_cases u:ls.length<2
 .refine⟨ls,.refl _,JD u,?_⟩;unfold dO
  have:iV [.c c] M=Z (.d (lR ls),M):=by
   simp only[iV,t,al,Option.bind_some,List.length_map,if_pos u]
  rw[this]
 .obtain⟨vs,p,s,e⟩:=DK h (by omega) q;refine⟨vs,p,s,?_⟩;unfold dO
  have:iV [.c c] M=Y:=by
   simp only[iV,t,al,Option.bind_some,List.length_map,if_neg u]
  rw[this]
  have:mL [.c c] M=Z (.d (lR vs),M):=by
   simp only[mL,t,al,Option.bind_some,HI,aGi h (by omega) q,if_true,e]
  exact this
def QC(h:Li M c ns):snap 5 M (.c c)=Z (.list (ns.map .int)):=by
 unfold Li at h;unfold snap;rw[h];show(jW 4 M (ns.map fun i=>I i)).bind _=_;rw[pE];rfl
def aIl{a b:Nat}(ha:Li M a ns)(q:Li M b []):eqY true (.c a) (.c b) M=Z (B (!ns.isEmpty),M):=by
 show eqC true (.c a) (.c b) M=_;unfold eqC;rw[QC ha,QC q,A2,A2,nR,nR];cases ns<;>rfl
noncomputable abbrev h4(s:Nat):T8:=[.c s,.c (s+1),.c (s+2),.c (s+3)]
structure PT(c:Nat)(M M':Sto)(hs:Nat->T9)(m:Nat):Prop where
 len:M'.length=M.length+5
 pre:∀i,i<M.length->i≠c->M'[i]?=M[i]?
 top:M'[M.length+4]?=Z (.lst (h4 M.length))
 cs:∀k,k<4->Li M' (M.length+k) (hs k)
 dk:Dk M' c m
def aHP{s:Nat}(h:k<4):atI (h4 s) (k:Int)=Z (.c (s+k)):=by
 refine iR ?_
 match k,h with
 |0,_=>rfl
 |1,_=>rfl
 |2,_=>rfl
 |3,_=>rfl
def jJ{h:FM}{M1 M2:Sto}(q:f γ M=Z (x,M1))(ty:tyB T M1 x=true)(ha:fa γ M1=Z (xs,M2))(e:h x xs M2=Z (y,M3)):bL T h f fa γ M=Z (y,M3):=by
 unfold bL;rw[q,A2];dsimp only;rw[A4 ty,ha,A2];exact e
def uQ{M1:Sto}(h:f γ M=Z (x,M1)):eZ f γ M=Z (.nx γ,M1):=by
 unfold eZ;rw[h,A2]
def pZ{M1:Sto}{b:Int}(h:f γ M=Z (I z,M1))(q:0<b):fOp fT f (fC (.int b)) γ M=Z (I (z % b),M1):=by
 refine aX h rfl ?_;show(ifS (rG z b) (.int (z % b))).bind _=_;rw[mH q];rfl
def IY(h:M[c]?=Z (.lst xs)):tyB "list" M (.c c)=true:=by simp only[tyB,h];decide
def wR(h:M[c]?=Z (.lst xs))(q:xs.length<900):bW (.c c) [y] M=Z (.d .none,M.set c (.lst (xs++[y]))):=by
 have l:xs.length<sizeLine:=by rw[S7];omega
 simp only[bW,h,if_pos l]
def IS{hs:Nat->T9}{p:Int}{d:CD}(F:c<M.length)(P:PT c M M' hs (m+1))(A:∀k,k<4->(hs k).length<800):
 ∃k M2,k<4/\kK [Z (.c c),Z d,Z (.c (M.length+4)),Z (I p)] M'=Z (.nx [Z (.c c),Z d,Z (.c (M.length+4)),Z (I p)],M2)/\PT c M M2 (fun i=>if i=k then hs i++[p]else hs i) m:=by
 obtain⟨z,M1,B,dk,o,G⟩:=P.dk.pop;obtain⟨k,C⟩:∃k:Nat,z % 4=(k:Int):=⟨(z % 4).toNat,by omega⟩;have t:k<4:=by omega
 have top:M1[M.length+4]?=Z (.lst (h4 M.length)):=by rw[o.at_ _ (by omega)];exact P.top
 have cs:∀k,k<4->Li M1 (M.length+k) (hs k):=fun k t=>(P.cs k t).oth o (by omega)
 have ix:ixF (.c (M.length+4)) (I k) M1=Z (.c (M.length+k),M1):=by
  simp only[ixF,top];rw[aHP t];rfl
 have D:bL "list" iI (aB 0) aE [Z (.c c),Z d,Z (.c (M.length+4)),Z (I p)] M'=Z (I z,M1):=pop_at rfl P.dk.ty B
 have E:fOp fT (bL "list" iI (aB 0) aE) (fC (.int 4)) [Z (.c c),Z d,Z (.c (M.length+4)),Z (I p)] M'=Z (I k,M1):=by
  rw[<- C];exact pZ D (by decide)
 refine⟨k,M1.set (M.length+k) (cI (hs k++[p])),t,?_,?_⟩
 .refine uQ (jJ (y:=.d .none) (aX rfl E ix) (cs k t).ty (aF rfl aI) ?_);exact(cs k t).push (by have:=A k t;omega)
 .refine⟨by rw[U2,o.len];exact P.len,fun i hi hn=>by rw[D5 (by omega),o.at_ _ hn];exact P.pre i hi hn,by rw[D5 (by omega)];exact top,fun j u=>?_,dk.put (by omega)⟩;show Li _ _ (if j=k then hs j++[p]else hs j);by_cases q:j=k
  .subst q;rw[A4 rfl];exact(cs j u).set.1
  .rw[B2 q];unfold Li;rw[D5 (by omega)];exact cs j u
structure Hp4(hs:Nat->T9)(ps:T9):Prop where
 up:∀k,Up (hs k)
 sb:∀k,Sb (hs k) ps
 ds:∀i j,i≠j->Ds (hs i) (hs j)
 ln:∀k,(hs k).length<=ps.length
def Hp4.add(h:Hp4 hs ps)(up:Up (ps++[p])):Hp4 (fun i=>if i=k then hs i++[p]else hs i) (ps++[p]):=by
 have lt:∀x∈ps,x<p:=fun x hx=>(List.pairwise_append.mp up).2.2 x hx p (by simp);have q:∀i,p∉hs i:=fun i A=>by have:=lt p (h.sb i p A);omega
 refine⟨fun i=>?_,fun i=>?_,fun i j ne=>?_,fun i=>?_⟩
 .show Up (if i=k then hs i++[p]else hs i);split
  .exact List.pairwise_append.mpr ⟨h.up i,U0 _ _,fun x hx y hy=>by rw[List.mem_singleton.mp hy];exact lt x (h.sb i x hx)⟩
  .exact h.up i
 .show Sb (if i=k then hs i++[p]else hs i) _;split
  .intro x hx;rcases List.mem_append.mp hx with hx|hx
   .exact D4 _ (h.sb i x hx)
   .exact B3 _ hx
  .intro x hx;exact D4 _ (h.sb i x hx)
 .show Ds (if i=k then hs i++[p]else hs i) (if j=k then hs j++[p]else hs j);intro x hx hy;by_cases t:i=k
  .rw[A4 t]at hx;rw[B2 (by omega)]at hy;rcases List.mem_append.mp hx with hx|hx
   .exact h.ds i j ne x hx hy
   .rw[List.mem_singleton.mp hx]at hy;exact q j hy
  .rw[B2 t]at hx;by_cases u:j=k
   .rw[A4 u]at hy;rcases List.mem_append.mp hy with hy|hy
    .exact h.ds i j ne x hx hy
    .rw[List.mem_singleton.mp hy]at hx;exact q i hx
   .rw[B2 u]at hy;exact h.ds i j ne x hx hy
 .show(if i=k then hs i++[p]else hs i).length<=_;have:=h.ln i;split<;>simp only[List.length_append,List.length_singleton]<;>omega
def wX{c:Nat}{M:Sto}{d:CD}(B:c<M.length):∀(t ps:T9)(m:Nat)(M':Sto)(hs:Nat->T9)(g:Th),PT c M M' hs (m+t.length)->Hp4 hs ps->Up (ps++t)->(ps++t).length<800->
 ∃g' M2 A,hV (hName 3) kK (t.map fun p=>I p) [Z (.c c),Z d,Z (.c (M.length+4)),g] M'=Z (.nx [Z (.c c),Z d,Z (.c (M.length+4)),g'],M2)/\PT c M M2 A m/\Hp4 A (ps++t)
 |[]=>fun ps m M' hs g P H u l=>⟨g,M',hs,rfl,P,by rw[D8];exact H⟩
 |q::t=>fun ps m M' hs g P H u l=>by
  obtain⟨k,M2,E,e,P2⟩:=IS (m:=m+t.length) (p:=q) (d:=d) B P fun k _=>by
   have:=H.ln k;rw[A6]at l;omega
  have a:ps++q::t=(ps++[q])++t:=by rw[F0];rfl
  rw[a]at u l ⊢;obtain⟨g',M3,A,C,P3,D⟩:=wX B t (ps++[q]) m M2 _ (Z (I q)) P2 (H.add (List.pairwise_append.mp u).1) u l;refine⟨g',M3,A,?_,P3,D⟩;rw[B6,dP (show hName 3 (I q) [Z (.c c),Z d,Z (.c (M.length+4)),g] M'=Z ([Z (.c c),Z d,Z (.c (M.length+4)),Z (I q)],M')from rfl) e];exact C
def aAM{M1:Sto}(h:f γ M=Z (.c c,M1))(q:M1[c]?=Z (.lst (ds.map .d))):eE f γ M=Z (.d (.list ds),M1.set c .dead):=by
 unfold eE;rw[h,A2];dsimp only;rw[q];dsimp only;rw[eA,A2]
def aCx{P:Sto->Prop}{c:TF}(h:P M):lcP P g c e [] γ M=Z ([],M):=by
 unfold lcP;exact A4 h
def aIy{P:Sto->Prop}{c:TF}{M1 M2:Sto}(h:P M)(q:g x γ M=Z (γ1,M1))(t:c γ1 M1=Z (false,M2)):lcP P g c e (x::xs) γ M=lcP P g c e xs γ1 M2:=by
 rw[lcP,A4 h,q,A2];dsimp only;rw[t,A2];exact B2 A7
def aIR{P:Sto->Prop}{c:TF}{M1 M2:Sto}(h:P M)(t:g x γ M=Z (γ1,M1))(u:c γ1 M1=Z (true,M2))(A:e γ1 M2=Z (y,M3)):lcP P g c e (x::xs) γ M=(lcP P g c e xs γ1 M3).bind fun q=>Z (y::q.1,q.2):=by
 rw[lcP,A4 h,t,A2];dsimp only;rw[u,A2];refine(A4 rfl).trans ?_;rw[A,A2]
def AB{c:Nat}{M:Sto}{hs:Nat->T9}:∀(n k:Nat)(M':Sto)(γ:Ga)(m:Nat),k+n=4->(∃g,γ=[g])->M.length+5<=M'.length->(∀i,i<M.length->i≠c->M'[i]?=M[i]?)->M'[M.length+4]?=Z (.lst (h4 M.length))->(∀j,k<=j->j<4->Li M' (M.length+j) (hs j))->Dk M' c m->c<M.length->
 ∃M2,lcP (fun X=>X[M.length+4]?=Z (.lst (h4 M.length))) (hName 0) (gB (fOp (eqY true) (aB 0) (dS aE))) (eE (aB 0)) ((List.range' k n).map fun j=>.c (M.length+j)) γ M'=Z ((((List.range' k n).map hs).filter fun h=>!h.isEmpty).map fun h=>.d (.list (rI h)),M2)/\M.length+5<=M2.length/\(∀i,i<M.length->i≠c->M2[i]?=M[i]?)/\Dk M2 c m
 |0=>fun k M' γ m I C G pre top cs dk E=>⟨M',aCx top,G,pre,dk⟩
 |n+1=>fun k M' γ m I C G pre top cs dk E=>by
  obtain⟨g,rfl⟩:=C;have H:=cs k (B4 _) (by omega)
  have K:dS aE [Z (.c (M.length+k))] M'=Z (.c M'.length,M'++[Cell.lst []]):=by
   show(if 0<=sizeLine then Z (CD.c M'.length,M'++[Cell.lst []])else Y)=_;rw[A4 (E9 _)]
  have t:gB (fOp (eqY true) (aB 0) (dS aE)) [Z (.c (M.length+k))] M'=Z (!(hs k).isEmpty,M'++[Cell.lst []]):=bM (aX rfl K (aIl H.app gE));have u:∀i,i<M.length->i≠c->(M'++[Cell.lst []])[i]?=M[i]?:=fun i hi hn=>by rw[E6 (by omega)];exact pre i hi hn
  have A:(M'++[Cell.lst []])[M.length+4]?=Z (.lst (h4 M.length)):=by rw[E6 (by omega)];exact top
  rw[List.range'_succ,B6,B6];cases q:(hs k).isEmpty with
  |true=>
   obtain⟨M2,e,D,B,F⟩:=AB (c:=c) (M:=M) (hs:=hs) n (k+1) (M'++[Cell.lst []]) [Z (.c (M.length+k))] m (by omega) ⟨_,rfl⟩ (by rw[A6];omega) u A (fun j D B=>(cs j (by omega) B).app) dk.app E;refine⟨M2,?_,D,B,F⟩;rw[q]at t;rw[aIy top (show hName 0 (.c (M.length+k)) [g] M'=Z ([Z (.c (M.length+k))],M')from rfl) t,e,U9 (by rw[q];decide)]
  |false=>
   have N:eE (aB 0) [Z (.c (M.length+k))] (M'++[Cell.lst []])=Z (.d (.list (rI (hs k))),(M'++[Cell.lst []]).set (M.length+k) .dead):=aAM rfl (by
    rw[show(M'++[Cell.lst []])[M.length+k]?=Z (cI (hs k))from H.app,B9];rfl)
   obtain⟨M2,e,D,B,F⟩:=AB (c:=c) (M:=M) (hs:=hs) n (k+1) ((M'++[Cell.lst []]).set (M.length+k) .dead) [Z (.c (M.length+k))] m (by omega) ⟨_,rfl⟩ (by rw[U2,A6];omega) (fun i hi hn=>by rw[D5 (by omega)];exact u i hi hn) (by rw[D5 (by omega)];exact A) (fun j D B=>by
    unfold Li;rw[D5 (by omega)];exact(cs j (by omega) B).app) (dk.app.put (by omega)) E
   refine⟨M2,?_,D,B,F⟩;rw[q]at t;rw[aIR top (show hName 0 (.c (M.length+k)) [g] M'=Z ([Z (.c (M.length+k))],M')from rfl) t N,e,Y0 (by rw[q];rfl)];rfl
def tL{f:AF}{M1:Sto}(h:f γ M=Z (xs,M1))(q:xs.length<=900):dS f γ M=Z (.c M1.length,M1++[.lst xs]):=by
 unfold dS;rw[h,A2];exact A4 (sz (show xs.length<=1000 by omega))
def aAc(dk:Dk M c (m+ps.length))(up:Up ps)(F:ps.length<800):∃(t:T0)(M':Sto)(e:Nat),gU [.c c,.d (.list (rI ps))] M=Z (.c e,M')/\M'[e]?=Z (.lst ((t.map fun h=>PyData.list (rI h)).map .d))/\M.length<=e/\Ex c M M'/\Dk M' c m/\t.length<=4/\(∀h∈t,Up h/\h≠[]/\Sb h ps)/\t.Pairwise Ds:=by
 have D:=dk.lt
 have n1:∀{γ:Ga}{M:Sto},dS aE γ M=Z (.c M.length,M++[.lst []]):=fun{γ M}=>by
  show(if 0<=sizeLine then Z (CD.c M.length,M++[.lst []])else Y)=_;rw[A4 (E9 _)]
 have G:dS (aA (dS aE) (aA (dS aE) (aA (dS aE) (aA (dS aE) aE)))) [Z (.c c),Z (.d (.list (rI ps))),Y,Y] M=Z (.c (M.length+4),M++[.lst [],.lst [],.lst [],.lst [],.lst (h4 M.length)]):=by
  have:=tL (aF (γ:=[Z (.c c),Z (.d (.list (rI ps))),Y,Y]) (M:=M) n1 (aF n1 (aF n1 (aF n1 aI)))) (show 4<=900 by decide);simp only[List.length_append,List.length_cons,List.length_nil,List.append_assoc,List.cons_append,List.nil_append,Nat.zero_add,Nat.add_assoc,Nat.reduceAdd]at this;exact this
 have H:PT c M (M++[.lst [],.lst [],.lst [],.lst [],.lst (h4 M.length)]) (fun _=>[]) (m+ps.length):=by
  refine⟨by rw[A6];rfl,fun i hi _=>E6 hi,by rw[F5 (by omega),Nat.add_sub_cancel_left];rfl,fun k K=>?_,dk.app⟩;unfold Li;rw[F5 (by omega),Nat.add_sub_cancel_left]
  match k,K with
  |0,_=>rfl
  |1,_=>rfl
  |2,_=>rfl
  |3,_=>rfl
 have N:Hp4 (fun _=>[]) []:=⟨fun _=>.nil,fun _ x h=>by simp at h,fun _ _ _ x h=>by simp at h,fun _=>B4 _⟩;obtain⟨B,M2,hs,O,P2,A⟩:=wX (d:=.d (.list (rI ps))) D ps [] m _ _ Y H N up F;rw[List.nil_append]at A;obtain⟨M3,P,V,Q,R⟩:=AB (c:=c) (M:=M) (hs:=hs) 4 0 M2 [Y] m rfl ⟨_,rfl⟩ (by rw[P2.len];omega) P2.pre P2.top (fun j _ h=>P2.cs j h) P2.dk D
 have it:aY (aB 1) [Z (.c c),Z (.d (.list (rI ps))),Z (.c (M.length+4)),Y] (M++[.lst [],.lst [],.lst [],.lst [],.lst (h4 M.length)])=Z (ps.map (fun p=>I p),M++[.lst [],.lst [],.lst [],.lst [],.lst (h4 M.length)]):=by
  rw[fA (f:=aB 1) (d:=.list (rI ps)) rfl rfl,B9];rfl
 have C:(([hs 0,hs 1,hs 2,hs 3]).filter fun h=>!h.isEmpty).length<=4:=O6 _ _
 have S:uM (aB 2) [Z (.c c),Z (.d (.list (rI ps))),Z (.c (M.length+4)),B] M2=Z ((h4 M.length,fun X=>X[M.length+4]?=Z (.lst (h4 M.length))),M2):=by
  unfold uM;rw[show aB 2 [Z (.c c),Z (.d (.list (rI ps))),Z (.c (M.length+4)),B] M2=Z (.c (M.length+4),M2)from rfl,A2];simp only[walked,P2.top,Option.bind_some]
 have T:pW [Z (.c c),Z (.d (.list (rI ps))),Z (.c (M.length+4)),B] M2=Z (.c M3.length,M3++[.lst ((([hs 0,hs 1,hs 2,hs 3]).filter fun h=>!h.isEmpty).map fun h=>.d (.list (rI h)))]):=by
  refine tL ?_ (by rw[A0];omega);unfold WA;rw[S,A2];dsimp only;rw[A4 (show(h4 M.length).length<=sizeLine from sz (show 4<=1000 by decide))];exact P
 refine⟨([hs 0,hs 1,hs 2,hs 3]).filter fun h=>!h.isEmpty,M3++[.lst ((([hs 0,hs 1,hs 2,hs 3]).filter fun h=>!h.isEmpty).map fun h=>.d (.list (rI h)))],M3.length,eG rfl ?_,?_,by omega,?_,R.app,C,fun h U=>?_,?_⟩
 .show aZ _ _ [Z (.c c),Z (.d (.list (rI ps))),Y,Y] M=_;rw[aV (bJ (i:=2) G)];show aZ _ _ [Z (.c c),Z (.d (.list (rI ps))),Z (.c (M.length+4)),Y] _=_;rw[aV (cW it O)];exact fF T
 .rw[gE,B9];rfl
 .exact⟨by rw[A6];omega,fun i hi hn=>by rw[E6 (by omega)];exact Q i hi hn⟩
 .obtain⟨h1,E⟩:=List.mem_filter.mp U
  have:∃k,h=hs k:=by
   simp only[List.mem_cons,List.not_mem_nil,or_false]at h1;rcases h1 with h1|h1|h1|h1
   .exact⟨0,h1⟩
   .exact⟨1,h1⟩
   .exact⟨2,h1⟩
   .exact⟨3,h1⟩
  obtain⟨k,rfl⟩:=this;exact⟨A.up k,(fun q=>by rw[q]at E;cases E),A.sb k⟩
 .refine List.Pairwise.filter _ ?_;simp only[List.pairwise_cons,List.mem_cons,List.not_mem_nil,or_false];refine⟨fun x u=>?_,fun x u=>?_,fun x u=>?_,fun x u=>by simp at u,.nil⟩
  .rcases u with rfl|rfl|rfl<;>exact A.ds _ _ (by decide)
  .rcases u with rfl|rfl<;>exact A.ds _ _ (by decide)
  .rcases u with rfl;exact A.ds _ _ (by decide)
structure DI(n:Int)(links todo:T0):Prop where
 lk:∀l∈links,LkP n l
 lam:∀a∈links,∀b∈links,Lm a b
 td:∀t∈todo,Up t/\∀p∈t,1<=p/\p<n
 tl:∀t∈todo,∀l∈links,Sb t l\/Ds t l
 dj:todo.Pairwise Ds
def Ds.symm(h:Ds a b):Ds b a:=fun x q t=>h x t q
def DI.put{links todo:T0}(D:DI n links (h::todo))(ne:h≠[]):DI n (links++[h]) (h::todo):=by
 have dj:=List.pairwise_cons.mp D.dj;have u:=D.td h A9;refine⟨fun l hl=>?_,fun a ha b hb=>?_,D.td,fun t ht l hl=>?_,D.dj⟩
 .rcases List.mem_append.mp hl with hl|hl
  .exact D.lk l hl
  .rw[List.mem_singleton.mp hl];exact⟨u.1,ne,u.2⟩
 .have l1:∀l∈links,Lm h l:=fun l hl=>(D.tl h A9 l hl).elim .inl fun q=>.inr (.inr q);rcases List.mem_append.mp ha with ha|ha
  .rcases List.mem_append.mp hb with hb|hb
   .exact D.lam a ha b hb
   .rw[List.mem_singleton.mp hb];exact(l1 a ha).symm
  .rw[List.mem_singleton.mp ha];rcases List.mem_append.mp hb with hb|hb
   .exact l1 b hb
   .rw[List.mem_singleton.mp hb];exact .refl h
 .rcases List.mem_append.mp hl with hl|hl
  .exact D.tl t ht l hl
  .rw[List.mem_singleton.mp hl];rcases List.mem_cons.mp ht with rfl|ht
   .exact .inl fun _ h=>h
   .exact .inr (dj.1 t ht).symm
def DI.perm{q:T0}(D:DI n links todo)(p:q.Perm todo):DI n links q:=
 ⟨D.lk,D.lam,fun t ht=>D.td t (p.mem_iff.mp ht),fun t ht=>D.tl t (p.mem_iff.mp ht),(p.symm.pairwise D.dj fun{_ _} h=>Ds.symm h)⟩
def DI.tail{todo:T0}(D:DI n links (h::todo)):DI n links todo:=
 ⟨D.lk,D.lam,fun t ht=>D.td t (B0 _ ht),fun t ht=>D.tl t (B0 _ ht),(List.pairwise_cons.mp D.dj).2⟩
def DI.part{ws u:T0}(D:DI n links (ws++[ps]))(A:∀h∈u,Up h/\h≠[]/\Sb h ps)(dj:u.Pairwise Ds):DI n links (u++ws):=by
 have pm:ps∈ws++[ps]:=B3 _ (List.mem_singleton.mpr rfl);have E:=List.pairwise_append.mp D.dj;refine⟨D.lk,D.lam,fun t ht=>?_,fun t ht l F=>?_,List.pairwise_append.mpr ⟨dj,E.1,fun h C w G x B H=>?_⟩⟩
 .rcases List.mem_append.mp ht with ht|ht
  .exact⟨(A t ht).1,fun p I=>(D.td ps pm).2 p ((A t ht).2.2 p I)⟩
  .exact D.td t (D4 _ ht)
 .rcases List.mem_append.mp ht with ht|ht
  .rcases D.tl ps pm l F with q|q
   .exact .inl fun x B=>q x ((A t ht).2.2 x B)
   .exact .inr fun x B=>q x ((A t ht).2.2 x B)
  .exact D.tl t (D4 _ ht) l F
 .exact E.2.2 w G ps (List.mem_singleton.mpr rfl) x H ((A h C).2.2 x B)
def yK{l:T9}(u:Up l)(h:∀p∈l,1<=p/\p<n)(hn:n<=9):l.length<=8:=by
 have:=U6 (l₁:=l) (l₂:=(List.range 8).map fun k:Nat=>(k:Int)+1) (sF u) fun x q=>by
  have:=h x q;exact List.mem_map.mpr ⟨(x-1).toNat,List.mem_range.mpr (by omega),by omega⟩
 rw[A0,E8]at this;exact this
abbrev lT(l:T9):CD:=.d (tR l)
abbrev lL(l:T9):CD:=.d (.list (rI l))
structure CI(c lk w:Nat)(M:Sto)(links ws:T0)(m:Nat):Prop where
 dk:Dk M c m
 li:M[lk]?=Z (.lst (links.map lT))
 wt:M[w]?=Z (.lst (ws.map lL))
 n1:lk≠c
 n2:w≠c
 n3:lk≠w
abbrev GC(c:Nat)(n:Int)(lk w:Nat)(g4 g5 g6 g7:Th):Ga:=[Z (.c c),Z (I n),Z (.c lk),Z (.c w),g4,g5,g6,g7,Y,Y,Y,Y,Y,Y,Y,Y,Y]
def sX{i j:Int}:gtI (I i) (I j) M=Z (B (decide (j<i)),M):=rfl
def tY{c:TF}{M1:Sto}{b:Bool}{M2:Sto}(q:c γ M=Z (b,M1))(t:f γ M1=Z (x,M2)):sIf c (eZ f) bR γ M=Z (.nx γ,if b=true then M2 else M1):=by
 cases b with
 |true=>rw[iP q,uQ t];rfl
 |false=>rw[fR q];rfl
def RZ{n:Int}{g4 g5 g7:Th}{h:T9}(C:CI c lk w M links ws (m+1))(l1:links.length<800)(l2:ws.length<800):
 ∃g M2 t B,iQ (GC c n lk w g4 g5 (Z (lL h)) g7) M=Z (.nx (GC c n lk w g4 g5 (Z (lL h)) g),M2)/\CI c lk w M2 t B m/\(t=links\/t=links++[h])/\(B=ws\/B=ws++[h]):=by
 obtain⟨z,M1,F,dk,o,Q⟩:=C.dk.pop;have G:bL "list" iI (aB 0) aE (GC c n lk w g4 g5 (Z (lL h)) g7) M=Z (I z,M1):=pop_at rfl C.dk.ty F;have A:CI c lk w M1 links ws m:=⟨dk,by rw[o.at_ _ C.n1];exact C.li,by rw[o.at_ _ C.n2];exact C.wt,C.n1,C.n2,C.n3⟩;have H:∀{M:Sto},gB (fOp gtI (fOp fT (aB 7) (fC (.int 4))) (fC (.int 0))) (GC c n lk w g4 g5 (Z (lL h)) (Z (I z))) M=Z (decide (0<z % 4),M):=bM (aX (pZ rfl (by decide)) rfl sX);have K:bL "list" bW (aB 2) (aA (aH cE (aA (aB 6) aE)) aE) (GC c n lk w g4 g5 (Z (lL h)) (Z (I z))) M1=Z (.d .none,M1.set lk (.lst (links.map lT++[lT h]))):=jJ rfl (IY A.li) (aF (aK (aF rfl aI) rfl) aI) (wR A.li (by rw[A0];omega))
 have u:∃t,CI c lk w (if decide (0<z % 4)=true then M1.set lk (.lst (links.map lT++[lT h]))else M1) t ws m/\(t=links\/t=links++[h]):=by
  split
  .refine⟨links++[h],⟨A.dk.put A.n1,?_,by rw[D5 A.n3];exact A.wt,C.n1,C.n2,C.n3⟩,.inr rfl⟩;rw[E2 (List.getElem?_eq_some_iff.mp A.li).1,F7];rfl
  .exact⟨links,A,.inl rfl⟩
 obtain⟨t,u,D⟩:=u;generalize E:(if decide (0<z % 4)=true then M1.set lk (.lst (links.map lT++[lT h]))else M1)=M2 at u
 have N:aH bN (aA (aB 6) aE) (GC c n lk w g4 g5 (Z (lL h)) (Z (I z))) M2=Z (I h.length,M2):=by
  have:=fG (r:=.list (rI h)) (ds:=rI h) rfl M2;rw[A0]at this;exact aK (aF rfl aI) this
 have O:jR (gB (fOp gtI (aH bN (aA (aB 6) aE)) (fC (.int 1)))) (gB (fOp gtI (fOp fT (aB 7) (fC (.int 3))) (fC (.int 0)))) (GC c n lk w g4 g5 (Z (lL h)) (Z (I z))) M2=Z (decide ((1:Int)<h.length)&&decide (0<z % 3),M2):=by
  unfold jR;rw[bM (aX N rfl sX),A2];cases q:decide ((1:Int)<h.length)with
  |false=>rfl
  |true=>rw[A4 rfl,bM (aX (pZ rfl (by decide)) rfl sX)];rfl
 have P:bL "list" bW (aB 3) (aA (aB 6) aE) (GC c n lk w g4 g5 (Z (lL h)) (Z (I z))) M2=Z (.d .none,M2.set w (.lst (ws.map lL++[lL h]))):=jJ rfl (IY u.wt) (aF rfl aI) (wR u.wt (by rw[A0];omega));refine⟨Z (I z),if (decide ((1:Int)<h.length)&&decide (0<z % 3))=true then M2.set w (.lst (ws.map lL++[lL h]))else M2,t,if (decide ((1:Int)<h.length)&&decide (0<z % 3))=true then ws++[h]else ws,?_,?_,D,?_⟩
 .unfold iQ;rw[aV (bJ (i:=7) G)];show aZ _ _ (GC c n lk w g4 g5 (Z (lL h)) (Z (I z))) M1=_;rw[aV (tY H K),E];exact tY O P
 .split
  .refine⟨u.dk.put u.n2,by rw[D5 (U3 u.n3)];exact u.li,?_,C.n1,C.n2,C.n3⟩;rw[E2 (List.getElem?_eq_some_iff.mp u.wt).1,F7];rfl
  .exact u
 .split
  .exact .inr rfl
  .exact .inl rfl
def zD{c lk w:Nat}{n:Int}{g4 g5:Th}:∀(q:T0)(m:Nat)(M:Sto)(links ws:T0)(g6 g7:Th),CI c lk w M links ws (m+q.length)->DI n links (q++ws)->(∀h∈q,h≠[])->links.length+q.length<800->ws.length+q.length<800->
 ∃B E M2 u F,hV (hName 6) iQ (q.map lL) (GC c n lk w g4 g5 g6 g7) M=Z (.nx (GC c n lk w g4 g5 B E),M2)/\CI c lk w M2 u F m/\DI n u F/\u.length<=links.length+q.length/\F.length<=ws.length+q.length
 |[]=>fun m M links ws g6 g7 C D _ l1 l2=>⟨g6,g7,M,links,ws,rfl,C,D,B4 _,B4 _⟩
 |h::q=>fun m M links ws g6 g7 C D ne l1 l2=>by
  rw[L7]at l1 l2;obtain⟨g,M1,t,G,O,P,I,K⟩:=RZ (n:=n) (g4:=g4) (g5:=g5) (g7:=g7) (h:=h) (m:=m+q.length) C (by omega) (by omega)
  have N:DI n t (h::(q++ws)):=by
   rcases I with rfl|rfl
   .exact D
   .exact D.put (ne h A9)
  have Q:DI n t (q++G):=by
   rcases K with rfl|rfl
   .exact N.tail
   .refine N.perm ?_;rw[<- F0];exact List.perm_append_singleton h (q++ws)
  have V:t.length<=links.length+1:=by rcases I with rfl|rfl<;>simp
  have W:G.length<=ws.length+1:=by rcases K with rfl|rfl<;>simp
  obtain⟨B,E,M2,A,H,R,S,T,X,q2⟩:=zD (g4:=g4) (g5:=g5) q m M1 t G (Z (lL h)) g P Q (fun x U=>ne x (B0 _ U)) (by omega) (by omega);refine⟨B,E,M2,A,H,?_,S,T,by rw[L7];omega,by rw[L7];omega⟩;rw[B6,dP (show hName 6 (lL h) (GC c n lk w g4 g5 g6 g7) M=Z (GC c n lk w g4 g5 (Z (lL h)) g7,M)from rfl) O];exact R
def zR(n:Nat)(M:Sto):∀ds:T6,jW n M (ds.map .d)=Z ds
 |[]=>by unfold jW;rfl
 |i::ns=>by
  rw[B6];unfold jW;rw[vP,A2,zR n M ns];rfl
def IJ{q:Type}{f:q->Ub}(h:∀l,PyData.canLay0 (f l)=true/\PyData.depth (f l)=1):∀ls:Tx q,PyData.canLayAll0 (ls.map f)=true/\PyData.depthAll (ls.map f)<=1
 |[]=>⟨rfl,E9 _⟩
 |l::ls=>by
  obtain⟨t,B⟩:=IJ h ls;obtain⟨u,A⟩:=h l;constructor
  .show(PyData.canLay0 (f l)&&PyData.canLayAll0 (ls.map f))=true;rw[u,t];rfl
  .show max (PyData.depth (f l)) (PyData.depthAll (ls.map f))<=1;rw[A];omega
def TJ(l:T9):PyData.canLay0 (.list (rI l))=true/\PyData.depth (.list (rI l))=1:=⟨mS l,by show PyData.depthAll (rI l)+1=1;rw[oP]⟩
def IQ(l:T9):PyData.canLay0 (tR l)=true/\PyData.depth (tR l)=1:=⟨mS l,by show PyData.depthAll (rI l)+1=1;rw[oP]⟩
def oZ(l:T9):SeqAt.shaped (tR l)=true:=by
 unfold SeqAt.shaped;rw[(IQ l).1,(IQ l).2];rfl
def RP{q:Type}{f:q->Ub}(h:∀l,PyData.canLay0 (f l)=true/\PyData.depth (f l)=1)(ls:Tx q):SeqAt.shaped (.list (ls.map f))=true:=by
 obtain⟨t,B⟩:=IJ h ls;unfold SeqAt.shaped;have u:PyData.canLay0 (.list (ls.map f))=true:=t;have A:PyData.depth (.list (ls.map f))=PyData.depthAll (ls.map f)+1:=rfl;rw[u,A,C7 (by omega)];rfl
def DC{q:Type}{f:q->Ub}{ls:Tx q}(h:M[c]?=Z (.lst (ls.map fun l=>.d (f l)))):snap 5 M (.c c)=Z (.list (ls.map f)):=by
 unfold snap;rw[h];show(jW 4 M (ls.map fun l=>CD.d (f l))).bind _=_;rw[show(ls.map fun l=>CD.d (f l))=(ls.map f).map .d by rw[B9];rfl,zR];rfl
def aCZ{ws:T0}(h:M[w]?=Z (.lst (ws.map lL))):eqY true (.c w) (.d (.list [])) M=Z (B (!ws.isEmpty),M):=by
 have s2:snap 5 M (.d (.list []))=Z (.list []):=by rw[vP]
 show eqC true (.c w) (.d (.list [])) M=_;unfold eqC;rw[DC (f:=fun l=>.list (rI l)) h,A2,s2,A2,RP TJ,show SeqAt.shaped (.list [])=true from rfl];cases ws<;>rfl
def XE(h:M[w]?=Z (.lst (xs++[y]))):iI (.c w) [] M=Z (y,M.set w (.lst xs)):=by
 simp only[iI,h];rw[show(xs++[y]).length-1=xs.length by simp,F5 (B4 _),A0h,List.dropLast_concat];rfl
def NG{g4 g5 g6 g7:Th}(hn:n<=9)(C:CI c lk w M links ws (m+12))(D:DI n links ws)(l1:links.length<700)(l2:ws.length<700):
 ∃N E G M2 u B,eX (GC c n lk w g4 g5 g6 g7) M=Z (.nx (GC c n lk w g4 N E G),M2)/\CI c lk w M2 u B m/\DI n u B/\u.length<=links.length+4/\B.length<=ws.length+4:=by
 have t:gB (fOp (eqY true) (aB 3) (hX aE)) (GC c n lk w g4 g5 g6 g7) M=Z (!ws.isEmpty,M):=bM (aX rfl aBr (aCZ C.wt));rcases List.eq_nil_or_concat ws with e|⟨A,ps,e⟩
 .subst e;refine⟨g5,g6,g7,M,links,[],?_,⟨C.dk.le (by omega),C.li,C.wt,C.n1,C.n2,C.n3⟩,D,by omega,by omega⟩;unfold eX;rw[fR t];rfl
 .rw[List.concat_eq_append]at e;subst e;have S:(!(A++[ps]).isEmpty)=true:=by cases A<;>rfl
  rw[S]at t;have wt:=C.wt;rw[F7]at wt;have T:bL "list" iI (aB 3) aE (GC c n lk w g4 g5 g6 g7) M=Z (lL ps,M.set w (.lst (A.map lL))):=jJ rfl (IY C.wt) aI (XE wt);have U:=(List.getElem?_eq_some_iff.mp C.wt).1;have O:=D.td ps (B3 _ (List.mem_singleton.mpr rfl));have pl:=yK O.1 O.2 hn;have I:Dk (M.set w (.lst (A.map lL))) c ((m+4)+ps.length):=(C.dk.put C.n2).le (by omega);obtain⟨H,M1,P,ep,V,le,ex,Q,h4,R,dj⟩:=aAc I O.1 (by omega);have W:=aAM (aK (F:=gU) (fa:=aA (aB 0) (aA (aB 5) aE)) (γ:=GC c n lk w g4 (Z (lL ps)) g6 g7) (aF rfl (aF rfl aI)) ep) V
  have it:aY (eE (aH gU (aA (aB 0) (aA (aB 5) aE)))) (GC c n lk w g4 (Z (lL ps)) g6 g7) (M.set w (.lst (A.map lL)))=Z (H.map lL,M1.set P .dead):=by
   rw[fA W rfl,B9];rfl
  have K:=ex.put (x:=.dead) (j:=P) le;have X:=(List.getElem?_eq_some_iff.mp C.li).1
  have C2:CI c lk w (M1.set P .dead) links A (m+H.length):=by
   refine⟨(Q.put ?_).le (by omega),K.to ?_ C.n1,K.to ?_ C.n2,C.n1,C.n2,C.n3⟩
   .intro q;have:=I.lt;omega
   .rw[D5 (U3 C.n3)];exact C.li
   .exact E2 U
  rw[A6,E7]at l2;obtain⟨E,G,M2,u,B,e2,C3,D3,q1,q2⟩:=zD (g4:=g4) (g5:=Z (lL ps)) H m _ links A g6 g7 C2 (D.part R dj) (fun h hx=>(R h hx).2.1) (by omega) (by omega);refine⟨Z (lL ps),E,G,M2,u,B,?_,C3,D3,by omega,by rw[A6];omega⟩;unfold eX;rw[iP t,aV (bJ (i:=5) T)];exact cW it e2
def KQ{ws:T0}(hn:n<=9)(C:CI c lk w M [] ws (m+96))(D:DI n [] ws)(l2:ws.length<=1):
 ∃g4 g5 g6 g7 M2 links q,hV (hName 4) eX (iE 0 8) (GC c n lk w Y Y Y Y) M=Z (.nx (GC c n lk w g4 g5 g6 g7),M2)/\CI c lk w M2 links q m/\DI n links q/\links.length<=32:=by
 obtain⟨F,M2,e,g4,g5,g6,g7,links,q,u,A,B,G,H⟩:=rO (g:=hName 4) (b:=eX) (n:=8) (Inv:=fun k γ M=>∃g4 g5 g6 g7 links q,γ=GC c n lk w g4 g5 g6 g7/\CI c lk w M links q (m+12*(8-k))/\DI n links q/\links.length<=4*k/\q.length<=1+4*k) (by
  intro k P γ M ⟨g4,g5,g6,g7,links,q,u,C,D,G,H⟩;subst u;obtain⟨K,N,O,M2,t,E,e,A,B,Q,R⟩:=NG (m:=m+12*(8-(k+1))) (g4:=Z (I (k:Nat))) (g5:=g5) (g6:=g6) (g7:=g7) hn (by rw[show m+12*(8-(k+1))+12=m+12*(8-k)by omega];exact C) D (by omega) (by omega);exact⟨_,_,M2,rfl,e,_,_,_,_,t,E,rfl,A,B,by omega,by omega⟩) 8 0 (GC c n lk w Y Y Y Y) M rfl ⟨_,_,_,_,_,_,rfl,C,D,E9 _,by omega⟩
 subst u;exact⟨g4,g5,g6,g7,M2,links,q,e,A,B,by omega⟩
def WD(a b:T9):PyData.eqv (tR a) (tR b)=decide (a=b):=rH a b
def NH(ls:T0)(l:T9):((ls.map tR).any fun d=>PyData.eqv d (tR l))=decide (l∈ls):=by
 rw[List.any_map,S0,List.any_eq_true,E5];constructor
 .intro ⟨a,h,e⟩;have e:a=l:=D9 ((WD a l).symm.trans e)
  rwa [<- e]
 .intro h;exact⟨l,h,(WD l l).trans (C7 rfl)⟩
def aAS(ls:T0):(ls.map tR).all SeqAt.shaped=true:=by
 rw[List.all_map];exact List.all_eq_true.mpr fun l _=>oZ l
def aER{ls:T0}(h:M[c]?=Z (.lst (ls.map lT))):inC true (lT l) (.c c) M=Z (B (!decide (l∈ls)),M):=by
 unfold inC;rw[vP,A2,DC (f:=tR) h,A2];show(Z (ls.map tR)).bind _=_;rw[A2,oZ,aAS,A4 (show(true&&true)=true from rfl),NH];rfl
def aGJ:inD true (lT l) (.d (lR ls)) M=Z (B (!decide (l∈ls)),M):=by
 unfold inD;dsimp only;rw[show aJ (lR ls)=Z (ls.map tR)from rfl,A2,oZ,aAS,A4 (show(true&&true)=true from rfl),NH];rfl
structure OK1(acc rest:T0):Prop where
 ris:acc.Pairwise fun a b=>lex a b=true
 nx:∀a∈acc,∀v∈rest,lex v a=false
 so:rest.Pairwise fun a b=>lex b a=false
def OK1.step{rest:T0}{v:T9}(h:OK1 acc (v::rest)):OK1 (if v∈acc then acc else acc++[v]) rest:=by
 have so:=List.pairwise_cons.mp h.so;split
 .exact⟨h.ris,fun a ha x t=>h.nx a ha x (B0 _ t),so.2⟩
 .rename_i q;refine⟨List.pairwise_append.mpr ⟨h.ris,U0 _ _,fun a ha b u=>?_⟩,fun a ha x t=>?_,so.2⟩
  .rw[List.mem_singleton.mp u];exact FI v a (h.nx a ha v A9) fun e=>q (by rw[e];exact ha)
  .rcases List.mem_append.mp ha with ha|ha
   .exact h.nx a ha x (B0 _ t)
   .rw[List.mem_singleton.mp ha];exact so.1 x t
abbrev GE(c:Nat)(n:Int)(x:CD)(w:Nat)(g4 g5 g6 g7:Th)(lk:Nat)(g9:Th):Ga:=[Z (.c c),Z (I n),Z x,Z (.c w),g4,g5,g6,g7,Z (.c lk),g9,Y,Y,Y,Y,Y,Y,Y]
def DQ{c w lk a:Nat}{n:Int}{g4 g5 g6 g7:Th}:∀(vs acc:T0)(M:Sto)(m:Nat)(g9:Th),M[a]?=Z (.lst (acc.map lT))->Dk M c m->a≠c->acc.length+vs.length<800->OK1 acc vs->
 ∃A M2 u,hV (hName 9) iM (vs.map lT) (GE c n (.c a) w g4 g5 g6 g7 lk g9) M=Z (.nx (GE c n (.c a) w g4 g5 g6 g7 lk A),M2)/\M2[a]?=Z (.lst (u.map lT))/\Dk M2 c m/\OK1 u []/\u.length<=acc.length+vs.length/\(∀l∈u,l∈acc\/l∈vs)
 |[]=>fun acc M m g9 ha dk ne l ok=>⟨g9,M,acc,rfl,ha,dk,ok,B4 _,fun _ h=>.inl h⟩
 |v::vs=>fun acc M m g9 ha dk ne l ok=>by
  rw[L7]at l;have t:gB (fOp (inC true) (aB 9) (aB 2)) (GE c n (.c a) w g4 g5 g6 g7 lk (Z (lT v))) M=Z (!decide (v∈acc),M):=bM (aX rfl rfl (aER ha));have D:bL "list" bW (aB 2) (aA (aB 9) aE) (GE c n (.c a) w g4 g5 g6 g7 lk (Z (lT v))) M=Z (.d .none,M.set a (.lst (acc.map lT++[lT v]))):=jJ rfl (IY ha) (aF rfl aI) (wR ha (by rw[A0];omega));have b:iM (GE c n (.c a) w g4 g5 g6 g7 lk (Z (lT v))) M=Z (.nx (GE c n (.c a) w g4 g5 g6 g7 lk (Z (lT v))),if (!decide (v∈acc))=true then M.set a (.lst (acc.map lT++[lT v]))else M):=tY t D
  have B:(if (!decide (v∈acc))=true then M.set a (.lst (acc.map lT++[lT v]))else M)[a]?=Z (.lst ((if v∈acc then acc else acc++[v]).map lT)):=by
   by_cases q:v∈acc
   .rw[B2 (by rw[C7 q];decide),A4 q];exact ha
   .rw[A4 (by rw[E4 q];rfl),B2 q,E2 (List.getElem?_eq_some_iff.mp ha).1,F7];rfl
  have C:Dk (if (!decide (v∈acc))=true then M.set a (.lst (acc.map lT++[lT v]))else M) c m:=by
   split
   .exact dk.put ne
   .exact dk
  have la:(if v∈acc then acc else acc++[v]).length<=acc.length+1:=by split<;>simp
  obtain⟨A,M2,u,e,E,F,G,h4,H⟩:=DQ (w:=w) (lk:=lk) (n:=n) (g4:=g4) (g5:=g5) (g6:=g6) (g7:=g7) vs _ _ m (Z (lT v)) B C ne (by omega) ok.step;refine⟨A,M2,u,?_,E,F,G,by rw[L7];omega,fun l I=>?_⟩
  .rw[B6,dP (show hName 9 (lT v) (GE c n (.c a) w g4 g5 g6 g7 lk g9) M=Z (GE c n (.c a) w g4 g5 g6 g7 lk (Z (lT v)),M)from rfl) b];exact e
  .rcases H l I with q|q
   .split at q
    .exact .inl q
    .rcases List.mem_append.mp q with q|q
     .exact .inl q
     .rw[List.mem_singleton.mp q];exact .inr A9
   .exact .inr (B0 _ q)
def aHh{g4 g5 g6 g7:Th}(C:CI c lk w M links ws m)(D:DI n links ws)(A:links.length<=32):
 ∃g9 M2 ls,aAa 2 (gV (aY (aH dO (aA (aB 8) aE))) (hName 9) iM) (GE c n (.c M.length) w g4 g5 g6 g7 lk Y) (M++[.lst []])=Z (.nx (GE c n (.d (lR ls)) w g4 g5 g6 g7 lk g9),M2)/\Dk M2 c m/\LnP n ls/\ls.length<=32:=by
 have u:=(List.getElem?_eq_some_iff.mp C.li).1;have I:=C.dk.lt;obtain⟨vs,pm,so,es⟩:=DT (M:=M++[.lst []]) (c:=lk) (ls:=links) (by rw[E6 u];exact C.li) (fun l t=>(D.lk l t).ne) (by omega)
 have it:aY (aH dO (aA (aB 8) aE)) (GE c n (.c M.length) w g4 g5 g6 g7 lk Y) (M++[.lst []])=Z (vs.map lT,M++[.lst []]):=by
  rw[fA (aK (aF rfl aI) es) rfl,B9];rfl
 obtain⟨g9,M2,acc,e,B,E,F,h4,G⟩:=DQ (c:=c) (w:=w) (lk:=lk) (n:=n) (a:=M.length) (g4:=g4) (g5:=g5) (g6:=g6) (g7:=g7) vs [] (M++[.lst []]) m Y gE C.dk.app (by omega) (by rw[pm.length_eq,A0q];omega) ⟨.nil,fun a h=>by simp at h,so⟩
 have mem:∀l∈acc,l∈links:=fun l t=>by
  rcases G l t with q|q
  .simp at q
  .exact pm.mem_iff.mp q
 refine⟨g9,M2.set M.length .dead,acc,?_,E.put (by omega),⟨fun l t=>D.lk l (mem l t),F.ris,fun a ha b H=>D.lam a (mem a ha) b (mem b H)⟩,by rw[A0q,pm.length_eq]at h4;omega⟩;unfold aAa;rw[cW it e,A2];show(WE 2 (GE c n (.c M.length) w g4 g5 g6 g7 lk g9) M2).bind _=_
 have:WE 2 (GE c n (.c M.length) w g4 g5 g6 g7 lk g9) M2=Z (GE c n (.d (lR acc)) w g4 g5 g6 g7 lk g9,M2.set M.length .dead):=by
  show(match M2[M.length]? with|some (.lst xs)=>(iU xs).bind fun ds=>Z ((GE c n (.c M.length) w g4 g5 g6 g7 lk g9).set 2 (Z (.d (.list ds))),M2.set M.length .dead)|_=>Y)=_;rw[B];dsimp only;rw[show acc.map lT=(acc.map tR).map .d by rw[B9];rfl,eA];rfl
 rw[this];rfl
noncomputable def cJ(n:Int):T9:=(List.range (n-1).toNat).map fun i:Nat=>1+(i:Int)
def full_mem:p∈cJ n↔1<=p/\p<n:=by
 unfold cJ;rw[List.mem_map];constructor
 .intro ⟨i,hi,e⟩;have:=List.mem_range.mp hi;omega
 .intro h;exact⟨(p-1).toNat,List.mem_range.mpr (by omega),by omega⟩
def QX(n:Int):Up (cJ n):=by
 unfold cJ Up;rw[List.pairwise_map];exact List.pairwise_lt_range.imp fun h=>by omega
def KO(n:Int):(cJ n).length=(n-1).toNat:=by unfold cJ;rw[A0,E8]
def HN(n:Int):DX 1 (n-1).toNat=rI (cJ n):=by
 unfold DX cJ rI;rw[B9];rfl
def LnP.full{ls vs:T0}(L:LnP n ls)(hn:3<n)(u:cJ n∉ls)(p:vs.Perm (ls++[cJ n]))(so:vs.Pairwise fun a b=>lex b a=false):LnP n vs:=by
 have lk:∀l∈ls++[cJ n],LkP n l:=fun l hl=>by
  rcases List.mem_append.mp hl with hl|hl
  .exact L.lk l hl
  .rw[List.mem_singleton.mp hl];exact⟨QX n,fun e=>by have:=KO n;rw[e,A0q]at this;omega,fun p A=>full_mem.mp A⟩
 have nd:vs.Nodup:=by
  rw[p.nodup_iff];refine List.nodup_append.mpr ⟨L.fam.nd,by simp,fun a ha b q e=>u ?_⟩;rw[<- List.mem_singleton.mp q,<- e];exact ha
 have t:∀l∈ls++[cJ n],Sb l (cJ n):=fun l hl x B=>full_mem.mpr ((lk l hl).io x B);refine⟨fun l hl=>lk l (p.mem_iff.mp hl),?_,fun a ha b q=>?_⟩
 .exact List.Pairwise.imp₂ (fun a b C D=>FI b a C D.symm) so nd
 .have ha:=p.mem_iff.mp ha;have q:=p.mem_iff.mp q;rcases List.mem_append.mp ha with qa|qa
  .rcases List.mem_append.mp q with qb|qb
   .exact L.lam a qa b qb
   .rw[List.mem_singleton.mp qb];exact .inl (t a ha)
  .rw[List.mem_singleton.mp qa];exact .inr (.inl (t b q))
def KC{q:Type}(ds:Tx q)(j:Nat)(h:j<=ds.length):fU ds (Z (j:Int)) Y=ds.drop j:=by
 unfold fU;rw[HT.sIx_nat,HT.sIx_none,Nat.min_eq_left h];exact List.take_of_length_le (by rw[A0g];exact B4 _)
def ER{q:Type}(ds:Tx q)(i j:Nat)(hi:i<=ds.length)(h:j<=ds.length):fU ds (Z (i:Int)) (Z (j:Int))=(ds.drop i).take (j-i):=by
 unfold fU;rw[HT.sIx_nat,HT.sIx_nat,Nat.min_eq_left h,Nat.min_eq_left hi]
def GZ{q t:Type}(f:q->t)(xs:Tx q)(lo hi:To):fU (xs.map f) lo hi=(fU xs lo hi).map f:=by
 unfold fU;rw[A0,A0o,List.map_drop]
def uE{l u:OF}{r:CD}{p q:To}(t:f γ M=Z (x,M))(A:l γ M=Z (p,M))(B:u γ M=Z (q,M))(h:slF x p q M=Z (r,M)):fSl f l u γ M=Z (r,M):=by
 unfold fSl;rw[t,A2];dsimp only;rw[A,A2];dsimp only;rw[B,A2];exact h
def ZJ{xs:T9}{lo:To}(h:Li M c xs):slF (.c c) lo hi M=Z (.d (.list (rI (fU xs lo hi))),M):=by
 unfold Li at h;simp only[slF,h];rw[GZ,show(fU xs lo hi).map (fun i=>I i)=(rI (fU xs lo hi)).map .d by rw[B9];rfl,eA];rfl
def ZI(q:a.length+b.length<=900):GB (.d (.list (rI a))) (.d (.list (rI b))) M=Z (.c M.length,M++[cI (a++b)]):=by
 have e:∀a:T9,(rI a).map CD.d=a.map fun i=>I i:=fun a=>by rw[B9];rfl
 show(Z ((rI a).map CD.d)).bind (fun xs=>(Z ((rI b).map CD.d)).bind fun ys=>if xs.length+ys.length<=sizeLine then Z (CD.c M.length,M++[.lst (xs++ys)])else Y)=_;rw[A2,A2,e,e,A4 (by rw[A0,A0];exact sz (by omega)),<- F7]
def aCk(h:2<=os.length):∃a q b,os=a::(q++[b]):=by
 cases os with
 |nil=>simp at h
 |cons a r=>
  rcases List.eq_nil_or_concat r with e|⟨q,b,e⟩
  .subst e;simp at h
  .exact⟨a,q,b,by rw[e,List.concat_eq_append]⟩
def QH(a:Int)(q:T9)(b:Int):(a::(q++[b])).getD 0 0=a/\(a::(q++[b])).getD ((a::(q++[b])).length-1) 0=b:=by
 refine⟨rfl,?_⟩;rw[show(a::(q++[b])).length-1=q.length+1 by simp,List.getD_cons_succ,A8,F5 (B4 _),A0h];rfl
def aFS{xs:T9}(h:Li M c xs)(q:0<xs.length):ixF (.c c) (I 0) M=Z (I (xs.getD 0 0),M):=by
 unfold Li at h;simp only[ixF,h];rw[IT (x0:=I 0) (by rw[A0];exact q),show(xs.map fun i=>I i).getD 0 (I 0)=I (xs.getD 0 0)by cases xs<;>rfl];rfl
def aGR(xs:T9)(k:Nat):(xs.map fun i=>I i).getD k (I 0)=I (xs.getD k 0):=by
 rw[A8,A8,D6];cases xs[k]?<;>rfl
def aGX{xs:T9}(h:Li M c xs)(q:0<xs.length):ixF (.c c) (I (-1)) M=Z (I (xs.getD (xs.length-1) 0),M):=by
 unfold Li at h;simp only[ixF,h];rw[QP (x0:=I 0) (by rw[A0];exact q),A0,aGR];rfl
def aAr{M1:Sto}{b:Int}(h:f γ M=Z (I z,M1))(q:0<b)(t:b<2 ^ 200):fOp lH f (fC (.int b)) γ M=Z (I (z / b),M1):=by
 refine aX h rfl ?_;show(ifS (zL z b) (.int (z / b))).bind _=_;rw[EB q (wsm (by omega) t)];rfl
structure WZ(ls:T0)(k:Nat)(os:T9):Prop where
 pm:os.Perm (cz (inn ls k))
 th:3<=os.length
def GJ(ls:T0)(k:Nat):(inn ls k).length<=ls.length:=by
 have:=O6 (inB ls k) (List.range ls.length)
 rwa [E8]at this
def aEi(ls:T0)(k:Nat):Up (cz (inn ls k)):=by
 unfold Up cz;rw[List.pairwise_map];exact(List.Pairwise.filter _ List.pairwise_lt_range).imp fun h=>by omega
def WZ.rg(O:WZ ls k os)(u:k<ls.length)(hd:os.getD 0 0<os.getD (os.length-1) 0)(sm:((inn ls k).map fun j=>(la ls j).length).sum=(la ls k).length):RgP ls k os:=by
 refine⟨by omega,fun j t=>?_,?_,O.th,hd,?_⟩
 .obtain⟨i,hi,rfl⟩:=List.mem_map.mp (O.pm.mem_iff.mp t);have:=eH hi;omega
 .rw[E3];exact nU (lB _) ((aEi ls k).imp fun q=>by omega) ((eL _).trans O.pm)
 .rw[E3,<- sm];have:=(O.pm.map fun j=>(la ls j.toNat).length).sum_nat;rw[this,B9];rfl
abbrev rgD(r:Int×T9):Ub:=.tuple [.int r.1,tR r.2]
abbrev GR(c:Nat)(n:Int)(ls:T0)(g3 g4 g5 g6 g7 g8 g9 g10:Th)(r:Nat)(g12 g13 g14 g15 g16:Th):Ga:=[Z (.c c),Z (I n),Z (.d (lR ls)),g3,g4,g5,g6,g7,g8,g9,g10,Z (.c r),g12,g13,g14,g15,g16]
structure RI(c r:Nat)(M:Sto)(rs:T3)(m:Nat):Prop where
 dk:Dk M c m
 rg:M[r]?=Z (.lst (rs.map fun p=>.d (rgD p)))
 ne:r≠c
def RI.app(h:RI c r M rs m):RI c r (M++L) rs m:=⟨h.dk.app,by rw[E6 (List.getElem?_eq_some_iff.mp h.rg).1];exact h.rg,h.ne⟩
def RI.put{o:Nat}{x:Cell}(h:RI c r M rs m)(q:o≠c)(t:o≠r):RI c r (M.set o x) rs m:=⟨h.dk.put q,by rw[D5 t];exact h.rg,h.ne⟩
def JA{q:Type}(xs:Tx q)(j:Nat):(xs.drop j++xs.take j).Perm xs:=by
 have:=List.perm_append_comm (l₁:=xs.drop j) (l₂:=xs.take j)
 rwa [List.take_append_drop]at this
def JI{q:Type}(xs:Tx q)(h:3<=xs.length):((xs.take 1++xs.drop 2)++(xs.drop 1).take 1).Perm xs:=by
 match xs,h with
 |a::b::r,_=>
  show(([a]++r)++[b]).Perm (a::b::r);have:=List.perm_append_singleton b r;exact List.Perm.cons a this
def RL{n:Int}{ls:T0}{g3 g4 g5 g6 g8 g9 g10 g14:Th}{z:Int}(R:RI c r M rs m)(hl:ls.length<=40)(V:k<ls.length)(h3:3<=(inn ls k).length)(hr:rs.length<800)(sm:((inn ls k).map fun j=>(la ls j).length).sum=(la ls k).length):
 ∃O M2 F,(aZ (bD (fOp fT (aB 7) (aH bN (aA (aB 13) aE))) (hName 15)) (aZ (bD (fOp GB (fSl (aB 13) (bY (aB 15)) bT) (fSl (aB 13) bT (bY (aB 15)))) (hName 16)) (aZ (sIf (gB (fOp (eqX false) (fOp fT (fOp lH (aB 7) (fC (.int 8))) (fC (.int 2))) (fC (.int 0)))) (bD (fOp GB (fOp eF (fSl (aB 16) bT (bY (fC (.int 1)))) (fSl (aB 16) (bY (fC (.int 2))) bT)) (fSl (aB 16) (bY (fC (.int 1))) (bY (fC (.int 2))))) (hName 16)) bR) (aZ (sIf (gB (fOp gtI (fOp ixF (aB 16) (fC (.int 0))) (fOp ixF (aB 16) (fUn rX (fC (.int 1)))))) (eZ (bL "list" fI (aB 16) aE)) bR) (sIf (gB (fOp gtI (fOp fT (fOp lH (aB 7) (fC (.int 16))) (fC (.int 4))) (fC (.int 0)))) (eZ (bL "list" bW (aB 11) (aA (cT (aA (aB 12) (aA (aH cE (aA (aB 16) aE)) aE))) aE))) bR)))))
  (GR c n ls g3 g4 g5 g6 (Z (I z)) g8 g9 g10 r (Z (I k)) (Z (.d (.list (nP (inn ls k))))) g14 g15 g16) M=Z (.nx O,M2)/\(∃g7 g12 g13 g14 g15 g16,O=GR c n ls g3 g4 g5 g6 g7 g8 g9 g10 r g12 g13 g14 g15 g16)/\RI c r M2 F m/\(F=rs\/∃os,F=rs++[((k:Int),os)]/\RgP ls k os):=by
 have eP:nP (inn ls k)=rI (cz (inn ls k)):=by
  show _=List.map PyData.int (List.map (fun j:Nat=>(j:Int)) (inn ls k));rw[B9];rfl
 have T:(cz (inn ls k)).length=(inn ls k).length:=A0 ..;have li:=GJ ls k
 obtain⟨j,hj,ej⟩:∃j:Nat,j<(inn ls k).length/\z % ((inn ls k).length:Int)=(j:Int):=⟨(z % ((inn ls k).length:Int)).toNat,by
  have h1:=Z8 z (show((inn ls k).length:Int)≠0 by omega);have h2:=Z5 z (show 0<((inn ls k).length:Int)by omega);omega,by
  have h1:=Z8 z (show((inn ls k).length:Int)≠0 by omega);omega⟩
 rw[eP]
 have ln:∀{g15 g16:Th}{M:Sto},aH bN (aA (aB 13) aE) (GR c n ls g3 g4 g5 g6 (Z (I z)) g8 g9 g10 r (Z (I k)) (Z (.d (.list (rI (cz (inn ls k)))))) g14 g15 g16) M=Z (I (inn ls k).length,M):=fun{g15 g16 M}=>by
  have:=fG (r:=.list (rI (cz (inn ls k)))) (ds:=rI (cz (inn ls k))) rfl M;rw[A0,T]at this;exact aK (aF rfl aI) this
 have sA:bD (fOp fT (aB 7) (aH bN (aA (aB 13) aE))) (hName 15) (GR c n ls g3 g4 g5 g6 (Z (I z)) g8 g9 g10 r (Z (I k)) (Z (.d (.list (rI (cz (inn ls k)))))) g14 g15 g16) M=Z (.nx (GR c n ls g3 g4 g5 g6 (Z (I z)) g8 g9 g10 r (Z (I k)) (Z (.d (.list (rI (cz (inn ls k)))))) g14 (Z (I j)) g16),M):=by
  refine bJ (i:=15) (aX rfl ln ?_);show(ifS (rG z ((inn ls k).length:Int)) (.int (z % ((inn ls k).length:Int)))).bind _=_;rw[mH (by omega),ej];rfl
 have sB:bD (fOp GB (fSl (aB 13) (bY (aB 15)) bT) (fSl (aB 13) bT (bY (aB 15)))) (hName 16) (GR c n ls g3 g4 g5 g6 (Z (I z)) g8 g9 g10 r (Z (I k)) (Z (.d (.list (rI (cz (inn ls k)))))) g14 (Z (I j)) g16) M=Z (.nx (GR c n ls g3 g4 g5 g6 (Z (I z)) g8 g9 g10 r (Z (I k)) (Z (.d (.list (rI (cz (inn ls k)))))) g14 (Z (I j)) (Z (.c M.length))),M++[cI ((cz (inn ls k)).drop j++(cz (inn ls k)).take j)]):=by
  refine bJ (i:=16) (aX (uE rfl rfl rfl (show slF (.d (.list (rI (cz (inn ls k))))) (Z (j:Int)) Y M=Z (.d (.list (rI ((cz (inn ls k)).drop j))),M)from ?_)) (uE rfl rfl rfl (show slF (.d (.list (rI (cz (inn ls k))))) Y (Z (j:Int)) M=Z (.d (.list (rI ((cz (inn ls k)).take j))),M)from ?_)) (ZI ?_))
  .show Z (CD.d (.list (fU (rI (cz (inn ls k))) (Z (j:Int)) Y)),M)=_;rw[GZ,KC _ _ (by omega)]
  .show Z (CD.d (.list (fU (rI (cz (inn ls k))) Y (Z (j:Int)))),M)=_;rw[GZ,qA _ _ (by omega)]
  .rw[A0g,Y3,T];omega
 have G:WZ ls k ((cz (inn ls k)).drop j++(cz (inn ls k)).take j):=⟨JA _ _,by rw[(JA _ _).length_eq,T];exact h3⟩;have hc:=R.dk.lt;have a0:=(List.getElem?_eq_some_iff.mp R.rg).1
 have sC:∃D M2 B,sIf (gB (fOp (eqX false) (fOp fT (fOp lH (aB 7) (fC (.int 8))) (fC (.int 2))) (fC (.int 0)))) (bD (fOp GB (fOp eF (fSl (aB 16) bT (bY (fC (.int 1)))) (fSl (aB 16) (bY (fC (.int 2))) bT)) (fSl (aB 16) (bY (fC (.int 1))) (bY (fC (.int 2))))) (hName 16)) bR (GR c n ls g3 g4 g5 g6 (Z (I z)) g8 g9 g10 r (Z (I k)) (Z (.d (.list (rI (cz (inn ls k)))))) g14 (Z (I j)) (Z (.c M.length))) (M++[cI ((cz (inn ls k)).drop j++(cz (inn ls k)).take j)])=Z (.nx (GR c n ls g3 g4 g5 g6 (Z (I z)) g8 g9 g10 r (Z (I k)) (Z (.d (.list (rI (cz (inn ls k)))))) g14 (Z (I j)) (Z (.c D))),M2)/\RI c r M2 rs m/\Li M2 D B/\WZ ls k B/\D≠c/\D≠r:=by
  have t:gB (fOp (eqX false) (fOp fT (fOp lH (aB 7) (fC (.int 8))) (fC (.int 2))) (fC (.int 0))) (GR c n ls g3 g4 g5 g6 (Z (I z)) g8 g9 g10 r (Z (I k)) (Z (.d (.list (rI (cz (inn ls k)))))) g14 (Z (I j)) (Z (.c M.length))) (M++[cI ((cz (inn ls k)).drop j++(cz (inn ls k)).take j)])=Z (z / 8 % 2==0,M++[cI ((cz (inn ls k)).drop j++(cz (inn ls k)).take j)]):=bM (aX (pZ (aAr rfl (by decide) (by decide)) (by decide)) rfl KI);have P:Li (M++[cI ((cz (inn ls k)).drop j++(cz (inn ls k)).take j)]) M.length ((cz (inn ls k)).drop j++(cz (inn ls k)).take j):=gE;generalize (cz (inn ls k)).drop j++(cz (inn ls k)).take j=A at t P G;cases q:(z / 8 % 2==0)with
  |false=>
   rw[q]at t;refine⟨M.length,M++[cI A],A,?_,R.app,P,G,by omega,by omega⟩;rw[fR t];rfl
  |true=>
   rw[q]at t;have W:A.length<=40:=by rw[G.pm.length_eq,T];omega
   have th:=G.th;have s1:=uE (f:=aB 16) (l:=bT) (u:=bY (fC (.int 1))) (γ:=GR c n ls g3 g4 g5 g6 (Z (I z)) g8 g9 g10 r (Z (I k)) (Z (.d (.list (rI (cz (inn ls k)))))) g14 (Z (I j)) (Z (.c M.length))) (M:=M++[cI A]) rfl rfl rfl (ZJ P);have s2:=uE (f:=aB 16) (l:=bY (fC (.int 2))) (u:=bT) (γ:=GR c n ls g3 g4 g5 g6 (Z (I z)) g8 g9 g10 r (Z (I k)) (Z (.d (.list (rI (cz (inn ls k)))))) g14 (Z (I j)) (Z (.c M.length))) (M:=M++[cI A]) rfl rfl rfl (ZJ P);have X:=uE (f:=aB 16) (l:=bY (fC (.int 1))) (u:=bY (fC (.int 2))) (γ:=GR c n ls g3 g4 g5 g6 (Z (I z)) g8 g9 g10 r (Z (I k)) (Z (.d (.list (rI (cz (inn ls k)))))) g14 (Z (I j)) (Z (.c M.length))) (M:=M++[cI A]) rfl rfl rfl (ZJ P);rw[show fU A Y (Z 1)=A.take 1 from qA A 1 (by omega)]at s1;rw[show fU A (Z 2) Y=A.drop 2 from KC A 2 (by omega)]at s2;rw[show fU A (Z 1) (Z 2)=(A.drop 1).take 1 from ER A 1 2 (by omega) (by omega)]at X;have H:=JI A G.th;have lm:=H.length_eq;rw[A6]at lm;have ad:=aX s1 s2 (add_list (M:=M++[cI A]) (by rw[A0,A0,<- A6];omega));rw[<- F7]at ad;have ct:=aX ad X (ZI (by omega));refine⟨(M++[cI A]).length,(M++[cI A])++[cI ((A.take 1++A.drop 2)++(A.drop 1).take 1)],(A.take 1++A.drop 2)++(A.drop 1).take 1,?_,R.app.app,gE,⟨H.trans G.pm,by rw[H.length_eq];exact G.th⟩,by rw[A6];omega,by rw[A6];omega⟩;rw[iP t];exact bJ (i:=16) ct
 obtain⟨D,M2,B,eC,R2,E,Q,nc,nr⟩:=sC;have a1:=Q.th
 have sD:∃M3 C,sIf (gB (fOp gtI (fOp ixF (aB 16) (fC (.int 0))) (fOp ixF (aB 16) (fUn rX (fC (.int 1)))))) (eZ (bL "list" fI (aB 16) aE)) bR (GR c n ls g3 g4 g5 g6 (Z (I z)) g8 g9 g10 r (Z (I k)) (Z (.d (.list (rI (cz (inn ls k)))))) g14 (Z (I j)) (Z (.c D))) M2=Z (.nx (GR c n ls g3 g4 g5 g6 (Z (I z)) g8 g9 g10 r (Z (I k)) (Z (.d (.list (rI (cz (inn ls k)))))) g14 (Z (I j)) (Z (.c D))),M3)/\RI c r M3 rs m/\Li M3 D C/\RgP ls k C:=by
  have t:gB (fOp gtI (fOp ixF (aB 16) (fC (.int 0))) (fOp ixF (aB 16) (fUn rX (fC (.int 1))))) (GR c n ls g3 g4 g5 g6 (Z (I z)) g8 g9 g10 r (Z (I k)) (Z (.d (.list (rI (cz (inn ls k)))))) g14 (Z (I j)) (Z (.c D))) M2=Z (decide (B.getD (B.length-1) 0<B.getD 0 0),M2):=bM (aX (aX rfl rfl (aFS E (by omega))) (aX rfl aFw (aGX E (by omega))) sX)
  have rv:bL "list" fI (aB 16) aE (GR c n ls g3 g4 g5 g6 (Z (I z)) g8 g9 g10 r (Z (I k)) (Z (.d (.list (rI (cz (inn ls k)))))) g14 (Z (I j)) (Z (.c D))) M2=Z (.d .none,M2.set D (cI B.reverse)):=by
   refine jJ rfl E.ty aI ?_;have:=E;unfold Li at this;simp only[fI,this];rw[<- List.map_reverse]
  have e:=tY t rv;obtain⟨a,K,b,U⟩:=aCk (os:=B) (by omega);have nd:B.Nodup:=by rw[Q.pm.nodup_iff];exact sF (aEi ls k)
  have ab:a≠b:=fun q=>by
   rw[U]at nd;have:=(List.nodup_cons.mp nd).1;exact this (B3 _ (by rw[q];exact List.mem_singleton.mpr rfl))
  have S:=QH a K b;rw[<- U]at S;rw[S.1,S.2]at e;by_cases q:b<a
  .rw[C7 q,A4 rfl]at e;refine⟨_,B.reverse,e,R2.put nc nr,(E.set (ys:=B.reverse)).1,WZ.rg (os:=B.reverse) ⟨(List.reverse_perm _).trans Q.pm,by rw[Y1];exact Q.th⟩ V ?_ sm⟩;have er:B.reverse=b::(K.reverse++[a]):=by rw[U];simp
   have:=QH b K.reverse a;rw[<- er]at this;rw[this.1,this.2];exact q
  .rw[E4 q,B2 A7]at e;refine⟨_,B,e,R2,E,Q.rg V ?_ sm⟩;rw[S.1,S.2];omega
 obtain⟨M3,C,eD,N,L3,rg⟩:=sD;have t5:gB (fOp gtI (fOp fT (fOp lH (aB 7) (fC (.int 16))) (fC (.int 4))) (fC (.int 0))) (GR c n ls g3 g4 g5 g6 (Z (I z)) g8 g9 g10 r (Z (I k)) (Z (.d (.list (rI (cz (inn ls k)))))) g14 (Z (I j)) (Z (.c D))) M3=Z (decide (0<z / 16 % 4),M3):=bM (aX (pZ (aAr rfl (by decide) (by decide)) (by decide)) rfl sX)
 have tu:cE [.c D] M3=Z (.d (tR C),M3):=by
  have:=L3;unfold Li at this;simp only[cE,this];rw[show C.map (fun i=>I i)=(rI C).map .d by rw[B9];rfl,eA];rfl
 have tt:cT (aA (aB 12) (aA (aH cE (aA (aB 16) aE)) aE)) (GR c n ls g3 g4 g5 g6 (Z (I z)) g8 g9 g10 r (Z (I k)) (Z (.d (.list (rI (cz (inn ls k)))))) g14 (Z (I j)) (Z (.c D))) M3=Z (.d (rgD ((k:Int),C)),M3):=by
  unfold cT;rw[aF rfl (aF (aK (aF rfl aI) tu) aI),A2];show(if 2<=sizeLine then Z (CD.d (.tuple [.int (k:Int),tR C]),M3)else Y)=_;rw[A4 (sz (by decide))]
 have ap:bL "list" bW (aB 11) (aA (cT (aA (aB 12) (aA (aH cE (aA (aB 16) aE)) aE))) aE) (GR c n ls g3 g4 g5 g6 (Z (I z)) g8 g9 g10 r (Z (I k)) (Z (.d (.list (rI (cz (inn ls k)))))) g14 (Z (I j)) (Z (.c D))) M3=Z (.d .none,M3.set r (.lst ((rs.map fun p=>.d (rgD p))++[.d (rgD ((k:Int),C))]))):=jJ rfl (IY N.rg) (aF tt aI) (wR N.rg (by rw[A0];omega));have sE:=tY t5 ap;refine⟨_,_,if decide (0<z / 16 % 4)=true then rs++[((k:Int),C)]else rs,by rw[aV sA,aV sB,aV eC,aV eD];exact sE,⟨_,_,_,_,_,_,rfl⟩,?_,?_⟩
 .split
  .refine⟨N.dk.put N.ne,?_,N.ne⟩;rw[E2 (List.getElem?_eq_some_iff.mp N.rg).1,F7];rfl
  .exact N
 .split
  .exact .inr ⟨C,rfl,rg⟩
  .exact .inl rfl
def aCC{c d:TF}{a b:Bool}(h:c γ M=Z (a,M))(hd:d γ M=Z (b,M)):jR c d γ M=Z (a&&b,M):=by
 unfold jR;rw[h,A2];cases a with
 |false=>rfl
 |true=>rw[A4 rfl,hd];rfl
def RU{n:Int}{ls:T0}{g3 g4 g5 g6 g7 g8 g9 g10 g13 g14:Th}(R:RI c r M rs (m+1))(H:ls.length<=40)(K:∀l∈ls,l.length<=40)(C:k<ls.length)(N:rs.length<800):
 ∃A M2 u,gC (GR c n ls g3 g4 g5 g6 g7 g8 g9 g10 r (Z (I k)) g13 g14 g15 g16) M=Z (.nx A,M2)/\(∃g7 g12 g13 g14 g15 g16,A=GR c n ls g3 g4 g5 g6 g7 g8 g9 g10 r g12 g13 g14 g15 g16)/\RI c r M2 u m/\(u=rs\/∃os,u=rs++[((k:Int),os)]/\RgP ls k os):=by
 have li:=GJ ls k;have O:eE (aH dH (aA (aB 2) (aA (aB 12) aE))) (GR c n ls g3 g4 g5 g6 g7 g8 g9 g10 r (Z (I k)) g13 g14 g15 g16) M=Z (.d (.list (nP (inn ls k))),M++[.dead]):=DO (ls:=ls) (k:=k) (aK (aF rfl (aF rfl aI)) (NX C (fun l h=>by have:=K l h;omega) (by omega)))
 have it:aY (aB 13) (GR c n ls g3 g4 g5 g6 g7 g8 g9 g10 r (Z (I k)) (Z (.d (.list (nP (inn ls k))))) g14 g15 g16) (M++[.dead])=Z ((inn ls k).map (fun j:Nat=>I j),M++[.dead]):=by
  rw[fA (f:=aB 13) (d:=.list (nP (inn ls k))) rfl rfl];refine C9 (fun x=>Z (x,M++[Cell.dead])) ?_;show List.map CD.d (List.map (fun j:Nat=>PyData.int j) (inn ls k))=_;rw[B9];rfl
 have D:=nS (i:=1) (e:=aH bN (aA (fOp ixF (aB 0) (aB 1)) aE)) (γ0:=[Z (.d (lR ls)),Y]) (M:=M++[.dead]) (fun j:Nat=>I j) (fun j=>.int ((la ls j).length:Nat)) (inn ls k) fun j P=>aK (aF (aX rfl rfl (qC (eH P))) aI) pH
 have Q:iT (GR c n ls g3 g4 g5 g6 g7 g8 g9 g10 r (Z (I k)) (Z (.d (.list (nP (inn ls k))))) g14 g15 g16) (M++[.dead])=Z (.d (.list ((inn ls k).map fun j=>.int ((la ls j).length:Nat))),M++[.dead]):=by
  unfold iT;exact iY it (by rw[A0];omega) D (by rw[A0];omega)
 have sm:=aK (F:=sumF) (aF Q aI) (sum_ints (f:=fun j=>(la ls j).length) (inn ls k));have X:=R.dk.lt;have B:RI c r (M++[.dead]) rs (m+1):=R.app;have E:bD (eE (aH dH (aA (aB 2) (aA (aB 12) aE)))) (hName 13) (GR c n ls g3 g4 g5 g6 g7 g8 g9 g10 r (Z (I k)) g13 g14 g15 g16) M=Z (.nx (GR c n ls g3 g4 g5 g6 g7 g8 g9 g10 r (Z (I k)) (Z (.d (.list (nP (inn ls k))))) g14 g15 g16),M++[.dead]):=bJ (i:=13) O;have G:bD (aH sumF (aA iT aE)) (hName 14) (GR c n ls g3 g4 g5 g6 g7 g8 g9 g10 r (Z (I k)) (Z (.d (.list (nP (inn ls k))))) g14 g15 g16) (M++[.dead])=Z (.nx (GR c n ls g3 g4 g5 g6 g7 g8 g9 g10 r (Z (I k)) (Z (.d (.list (nP (inn ls k))))) (Z (I (((inn ls k).map fun j=>(la ls j).length).sum:Nat))) g15 g16),M++[.dead]):=bJ (i:=14) sm;unfold gC;rw[aV E,aV G]
 have t:jR (gB (fOp gtI (aH bN (aA (aB 13) aE)) (fC (.int 2)))) (gB (fOp (eqX false) (aB 14) (aH bN (aA (fOp ixF (aB 2) (aB 12)) aE)))) (GR c n ls g3 g4 g5 g6 g7 g8 g9 g10 r (Z (I k)) (Z (.d (.list (nP (inn ls k))))) (Z (I (((inn ls k).map fun j=>(la ls j).length).sum:Nat))) g15 g16) (M++[.dead])=Z (decide ((2:Int)<(inn ls k).length)&&((((inn ls k).map fun j=>(la ls j).length).sum:Nat)==(((la ls k).length:Nat):Int)),M++[.dead]):=by
  have l1:=fG (r:=.list (nP (inn ls k))) (ds:=nP (inn ls k)) rfl (M++[.dead]);rw[A0]at l1;exact aCC (bM (aX (aK (aF rfl aI) l1) rfl sX)) (bM (aX rfl (aK (aF (aX rfl rfl (qC C)) aI) pH) KI))
 cases q:(decide ((2:Int)<(inn ls k).length)&&((((inn ls k).map fun j=>(la ls j).length).sum:Nat)==(((la ls k).length:Nat):Int)))with
 |false=>
  rw[q]at t;refine⟨GR c n ls g3 g4 g5 g6 g7 g8 g9 g10 r (Z (I k)) (Z (.d (.list (nP (inn ls k))))) (Z (I (((inn ls k).map fun j=>(la ls j).length).sum:Nat))) g15 g16,M++[.dead],rs,?_,⟨g7,Z (I k),_,_,g15,g16,rfl⟩,⟨B.dk.le (by omega),B.rg,B.ne⟩,.inl rfl⟩;exact(fR t).trans rfl
 |true=>
  rw[q]at t;rw[B8,E5,Z4]at q;obtain⟨z,M1,S,dk,o,rz⟩:=B.dk.pop;have T:bL "list" iI (aB 0) aE (GR c n ls g3 g4 g5 g6 g7 g8 g9 g10 r (Z (I k)) (Z (.d (.list (nP (inn ls k))))) (Z (I (((inn ls k).map fun j=>(la ls j).length).sum:Nat))) g15 g16) (M++[.dead])=Z (I z,M1):=pop_at rfl B.dk.ty S;have R2:RI c r M1 rs m:=⟨dk,by rw[o.at_ _ R.ne];exact B.rg,R.ne⟩;obtain⟨A,M2,u,U,V,W,h4⟩:=RL (n:=n) (g3:=g3) (g4:=g4) (g5:=g5) (g6:=g6) (g8:=g8) (g9:=g9) (g10:=g10) (g14:=Z (I (((inn ls k).map fun j=>(la ls j).length).sum:Nat))) (g15:=g15) (g16:=g16) (z:=z) R2 H C (by omega) N (by omega);refine⟨A,M2,u,?_,V,W,h4⟩;refine(iP t).trans ?_;rw[aV (bJ (i:=7) T)];exact U
structure Rs(ls:T0)(k:Nat)(rs:T3):Prop where
 rg:∀r∈rs,RgP ls r.1 r.2
 up:Up (rs.map (·.1))
 lt:∀r∈rs,r.1<k
 ln:rs.length<=k
def MJ{n:Int}{ls:T0}{g3 g4 g5 g6 g7 g8 g9 g10:Th}(R:RI c r M [] (m+ls.length))(B:ls.length<=40)(C:∀l∈ls,l.length<=40):
 ∃q M2 rs,hV (hName 12) gC (iE 0 ls.length) (GR c n ls g3 g4 g5 g6 g7 g8 g9 g10 r Y Y Y Y Y) M=Z (.nx q,M2)/\(∃g7 g12 g13 g14 g15 g16,q=GR c n ls g3 g4 g5 g6 g7 g8 g9 g10 r g12 g13 g14 g15 g16)/\RI c r M2 rs m/\Rs ls ls.length rs:=by
 obtain⟨q,M2,e,rs,D,A,E⟩:=rO (g:=hName 12) (b:=gC) (n:=ls.length) (Inv:=fun k γ M=>∃rs,(∃g7 g12 g13 g14 g15 g16,γ=GR c n ls g3 g4 g5 g6 g7 g8 g9 g10 r g12 g13 g14 g15 g16)/\RI c r M rs (m+(ls.length-k))/\Rs ls k rs) (by
  intro k F γ M ⟨rs,⟨g7,g12,g13,g14,g15,g16,t⟩,R,S⟩;subst t;obtain⟨q,M2,u,e,G,R2,h⟩:=RU (m:=m+(ls.length-(k+1))) (n:=n) (g3:=g3) (g4:=g4) (g5:=g5) (g6:=g6) (g7:=g7) (g8:=g8) (g9:=g9) (g10:=g10) (g13:=g13) (g14:=g14) (g15:=g15) (g16:=g16) (by rw[show m+(ls.length-(k+1))+1=m+(ls.length-k)by omega];exact R) B C F (by have:=S.ln;omega);refine⟨_,q,M2,rfl,e,u,G,R2,?_⟩;rcases h with rfl|⟨os,rfl,rg⟩
  .exact⟨S.rg,S.up,fun r hr=>by have:=S.lt r hr;omega,by have:=S.ln;omega⟩
  .refine⟨fun r hr=>?_,?_,fun r hr=>?_,by rw[A6,E7];have:=S.ln;omega⟩
   .rcases List.mem_append.mp hr with hr|hr
    .exact S.rg r hr
    .rw[List.mem_singleton.mp hr];exact rg
   .rw[F7];refine List.pairwise_append.mpr ⟨S.up,U0 _ _,fun x H y I=>?_⟩;obtain⟨p,K,rfl⟩:=List.mem_map.mp H;rw[List.mem_singleton.mp I];exact S.lt p K
   .rcases List.mem_append.mp hr with hr|hr
    .have:=S.lt r hr;omega
    .rw[List.mem_singleton.mp hr];show(k:Int)<_;omega) ls.length 0 (GR c n ls g3 g4 g5 g6 g7 g8 g9 g10 r Y Y Y Y Y) M (A1k _) ⟨[],⟨_,_,_,_,_,_,rfl⟩,R,⟨fun r h=>by simp at h,.nil,fun r h=>by simp at h,B4 _⟩⟩
 refine⟨q,M2,rs,e,D,?_,E⟩;rw[A0h]at A;exact A
abbrev chD(ls:T0)(rs:T3):Ub:=.tuple [.tuple (ls.map tR),.tuple (rs.map rgD)]
structure Ch(n:Int)(ls:T0)(rs:T3):Prop where
 ln:LnP n ls
 rp:RsP ls rs
 l1:ls.length<=33
 l2:rs.length<=33
def UH{w lk:Nat}{g4 g5 g6 g7 g9:Th}(L:LnP n ls)(D:ls.length<=32)(dk:Dk M c (m+1)):
 ∃t M2,sIf (jR (gB (fOp gtI (aB 1) (fC (.int 3)))) (gB (fOp (eqX false) (fOp fT (bL "list" iI (aB 0) aE) (fC (.int 2))) (fC (.int 0))))) (sIf (gB (fOp (inD true) (aB 10) (aB 2))) (bD (aH dO (aA (fOp eF (aB 2) (hX (aA (aB 10) aE))) aE)) (hName 2)) bR) bR ([Z (.c c),Z (I n),Z (.d (lR ls)),Z (.c w),g4,g5,g6,g7,Z (.c lk),g9,Z (lT (cJ n)),Y,Y,Y,Y,Y,Y]) M=Z (.nx [Z (.c c),Z (I n),Z (.d (lR t)),Z (.c w),g4,g5,g6,g7,Z (.c lk),g9,Z (lT (cJ n)),Y,Y,Y,Y,Y,Y],M2)/\Dk M2 c m/\LnP n t/\t.length<=33:=by
 have C:gB (fOp gtI (aB 1) (fC (.int 3))) [Z (.c c),Z (I n),Z (.d (lR ls)),Z (.c w),g4,g5,g6,g7,Z (.c lk),g9,Z (lT (cJ n)),Y,Y,Y,Y,Y,Y] M=Z (decide (3<n),M):=bM (aX rfl rfl sX);by_cases hn:3<n
 .obtain⟨z,M1,E,u,o,G⟩:=dk.pop;have F:bL "list" iI (aB 0) aE [Z (.c c),Z (I n),Z (.d (lR ls)),Z (.c w),g4,g5,g6,g7,Z (.c lk),g9,Z (lT (cJ n)),Y,Y,Y,Y,Y,Y] M=Z (I z,M1):=pop_at rfl dk.ty E
  have A:jR (gB (fOp gtI (aB 1) (fC (.int 3)))) (gB (fOp (eqX false) (fOp fT (bL "list" iI (aB 0) aE) (fC (.int 2))) (fC (.int 0)))) [Z (.c c),Z (I n),Z (.d (lR ls)),Z (.c w),g4,g5,g6,g7,Z (.c lk),g9,Z (lT (cJ n)),Y,Y,Y,Y,Y,Y] M=Z (z % 2==0,M1):=by
   unfold jR;rw[C,A2,C7 hn];exact(A4 rfl).trans (bM (aX (pZ F (by decide)) rfl KI))
  cases q:(z % 2==0)with
  |false=>
   rw[q]at A;exact⟨ls,M1,(fR A).trans rfl,u,L,by omega⟩
  |true=>
   rw[q]at A;have B:gB (fOp (inD true) (aB 10) (aB 2)) [Z (.c c),Z (I n),Z (.d (lR ls)),Z (.c w),g4,g5,g6,g7,Z (.c lk),g9,Z (lT (cJ n)),Y,Y,Y,Y,Y,Y] M1=Z (!decide (cJ n∈ls),M1):=bM (aX rfl rfl aGJ);by_cases f:cJ n∈ls
   .rw[C7 f]at B;exact⟨ls,M1,(iP A).trans ((fR B).trans rfl),u,L,by omega⟩
   .rw[E4 f]at B
    obtain⟨vs,pm,so,es⟩:=TV (ls:=ls++[cJ n]) (M:=M1) (fun l hl=>by
     rcases List.mem_append.mp hl with hl|hl
     .exact(L.lk l hl).ne
     .rw[List.mem_singleton.mp hl];intro e;have:=KO n;rw[e,A0q]at this;omega) (by rw[A6,E7];omega)
    refine⟨vs,M1,(iP A).trans ((iP B).trans ?_),u,L.full hn f pm so,by rw[pm.length_eq,A6,E7];omega⟩
    have l1:hX (aA (aB 10) aE) [Z (.c c),Z (I n),Z (.d (lR ls)),Z (.c w),g4,g5,g6,g7,Z (.c lk),g9,Z (lT (cJ n)),Y,Y,Y,Y,Y,Y] M1=Z (.d (.list [tR (cJ n)]),M1):=by
     show(if 1<=sizeLine then Z (CD.d (.list [tR (cJ n)]),M1)else Y)=_;rw[A4 (sz (by decide))]
    have ad:eF (.d (lR ls)) (.d (.list [tR (cJ n)])) M1=Z (.d (lR (ls++[cJ n])),M1):=by
     rw[add_list (by rw[A0,E7];omega)];refine C9 (fun x=>Z (CD.d (.list x),M1)) ?_;rw[F7];rfl
    exact bJ (i:=2) (aK (aF (aX rfl l1 ad) aI) es)
 .rw[E4 hn]at C;refine⟨ls,M,(fR (show jR _ _ _ _=Z (false,M)from ?_)).trans rfl,dk.le (by omega),L,by omega⟩;unfold jR;rw[C];rfl
def aCK(h1:1<=n)(S:n<=9)(dk:Dk M c (m+130)):∃ls rs M',kQ [.c c,I n] M=Z (.d (chD ls rs),M')/\Dk M' c m/\Ch n ls rs:=by
 have hc:=dk.lt;have s1:bD (dS aE) (hName 2) [Z (.c c),Z (I n),Y,Y,Y,Y,Y,Y,Y,Y,Y,Y,Y,Y,Y,Y,Y] M=Z (.nx [Z (.c c),Z (I n),Z (.c M.length),Y,Y,Y,Y,Y,Y,Y,Y,Y,Y,Y,Y,Y,Y],M++[.lst []]):=bJ (i:=2) (tL aI (E9 _))
 have rg:AD false (aA (fC (.int 1)) (aA (aB 1) aE)) [Z (.c c),Z (I n),Z (.c M.length),Y,Y,Y,Y,Y,Y,Y,Y,Y,Y,Y,Y,Y,Y] (M++[.lst []])=Z (lL (cJ n),M++[.lst []]):=by
  show(if (cC 1=true/\cC n=true)/\(n-1).toNat<=sizeLine then(if false=true then Z (CD.c (M++[Cell.lst []]).length,(M++[Cell.lst []])++[Cell.lst (iE 1 (n-1).toNat)])else Z (CD.d (.list (DX 1 (n-1).toNat)),M++[Cell.lst []]))else Y)=_;rw[A4 ⟨⟨mP (by omega) (by omega),mP (by omega) (by omega)⟩,sz (by omega)⟩,B2 A7,HN]
 have s2:bD (dS (aA (AD false (aA (fC (.int 1)) (aA (aB 1) aE))) aE)) (hName 3) [Z (.c c),Z (I n),Z (.c M.length),Y,Y,Y,Y,Y,Y,Y,Y,Y,Y,Y,Y,Y,Y] (M++[.lst []])=Z (.nx (GC c n M.length (M.length+1) Y Y Y Y),(M++[.lst []])++[.lst [lL (cJ n)]]):=by
  have:=bJ (i:=3) (tL (aF rg aI) (show 1<=900 by decide));rw[A6]at this;exact this
 have T:CI c M.length (M.length+1) ((M++[.lst []])++[.lst [lL (cJ n)]]) [] [cJ n] ((m+34)+96):=by
  refine⟨dk.app.app,?_,?_,by omega,by omega,by omega⟩
  .rw[E6 (by rw[A6,E7];omega)];exact gE
  .have:=gE (M:=M++[.lst []]) (c:=.lst [lL (cJ n)]);rw[A6]at this;exact this
 have U:DI n [] [cJ n]:=⟨fun l h=>by simp at h,fun l h=>by simp at h,fun t ht=>by rw[List.mem_singleton.mp ht];exact⟨QX n,fun p V=>full_mem.mp V⟩,fun t _ l h=>by simp at h,U0 _ _⟩;obtain⟨g4,g5,g6,g7,M1,links,ws,W,X,D1,B⟩:=KQ S T U (B4 _);have r8:fS (aA (fC (.int 8)) aE) (GC c n M.length (M.length+1) Y Y Y Y) ((M++[.lst []])++[.lst [lL (cJ n)]])=Z (iE 0 8,(M++[.lst []])++[.lst [lL (cJ n)]]):=wF (J:=8) rfl (mP (by decide) (by decide));obtain⟨g9,M2,ls,e2,C,D,E⟩:=aHh (g4:=g4) (g5:=g5) (g6:=g6) (g7:=g7) X D1 B
 have F:bD (EM (aA (fC (.int 1)) (aA (aB 1) aE))) (hName 10) (GE c n (.d (lR ls)) (M.length+1) g4 g5 g6 g7 M.length g9) M2=Z (.nx [Z (.c c),Z (I n),Z (.d (lR ls)),Z (.c (M.length+1)),g4,g5,g6,g7,Z (.c M.length),g9,Z (lT (cJ n)),Y,Y,Y,Y,Y,Y],M2):=by
  refine bJ (i:=10) (x:=lT (cJ n)) ?_;show(if (cC 1=true/\cC n=true)/\(n-1).toNat<=sizeLine then Z (CD.d (.tuple (DX 1 (n-1).toNat)),M2)else Y)=_;rw[A4 ⟨⟨mP (by omega) (by omega),mP (by omega) (by omega)⟩,sz (by omega)⟩,HN]
 obtain⟨q,M3,e3,A,G,H⟩:=UH (w:=M.length+1) (lk:=M.length) (g4:=g4) (g5:=g5) (g6:=g6) (g7:=g7) (g9:=g9) (m:=m+33) D E C;have K:bD (dS aE) (hName 11) [Z (.c c),Z (I n),Z (.d (lR q)),Z (.c (M.length+1)),g4,g5,g6,g7,Z (.c M.length),g9,Z (lT (cJ n)),Y,Y,Y,Y,Y,Y] M3=Z (.nx (GR c n q (Z (.c (M.length+1))) g4 g5 g6 g7 (Z (.c M.length)) g9 (Z (lT (cJ n))) M3.length Y Y Y Y Y),M3++[.lst []]):=bJ (i:=11) (tL aI (E9 _));have R0:RI c M3.length (M3++[.lst []]) [] (m+q.length):=⟨A.app.le (by omega),gE,by have:=A.lt;omega⟩;obtain⟨a0,u,rs,e4,⟨h7,a1,a2,a3,a4,a5,N⟩,Q,O⟩:=MJ (n:=n) (g3:=Z (.c (M.length+1))) (g4:=g4) (g5:=g5) (g6:=g6) (g7:=g7) (g8:=Z (.c M.length)) (g9:=g9) (g10:=Z (lT (cJ n))) R0 (by omega) fun l R=>HC (G.lk l R).up (G.lk l R).io (by omega);subst N
 have P:fS (aA (aH bN (aA (aB 2) aE)) aE) (GR c n q (Z (.c (M.length+1))) g4 g5 g6 g7 (Z (.c M.length)) g9 (Z (lT (cJ n))) M3.length Y Y Y Y Y) (M3++[.lst []])=Z (iE 0 q.length,M3++[.lst []]):=by
  rw[wF (J:=(q.length:Int)) (aF (aK (aF rfl aI) FH) aI) (mP (by omega) (by omega)),E3]
 have tu:cE [.c M3.length] u=Z (.d (.tuple (rs.map rgD)),u):=by
  simp only[cE,Q.rg];rw[show(rs.map fun p=>CD.d (rgD p))=(rs.map rgD).map .d by rw[B9];rfl,eA];rfl
 refine⟨q,rs,u,eG rfl ?_,Q.dk,⟨G,⟨O.rg,O.up⟩,H,by have:=O.ln;omega⟩⟩;show aZ _ _ [Z (.c c),Z (I n),Y,Y,Y,Y,Y,Y,Y,Y,Y,Y,Y,Y,Y,Y,Y] M=_;rw[aV s1,aV s2,aV (cW r8 W),aV (bJ (i:=8) (x:=.c M.length) rfl)];show aZ (bD (dS aE) (hName 2)) _ (GE c n (.c M.length) (M.length+1) g4 g5 g6 g7 M.length Y) M1=_;rw[aV (bJ (i:=2) (tL aI (E9 _)))];show aZ _ _ (GE c n (.c M1.length) (M.length+1) g4 g5 g6 g7 M.length Y) (M1++[.lst []])=_;rw[aV e2,aV F,aV e3,aV K,aV (cW P e4)];refine fF ?_;unfold cT;rw[aF (aK (aF rfl aI) (show cE [.d (lR q)] u=Z (.d (.tuple (q.map tR)),u)from rfl)) (aF (aK (aF rfl aI) tu) aI),A2];show(if 2<=sizeLine then Z (CD.d (chD q rs),u)else Y)=_;rw[A4 (sz (by decide))]
def Tm:Nat->Ub->Prop
 |0,d=>aJ d=Y
 |m+1,d=>∀ds,aJ d=Z ds->ds.length<64/\∀x∈ds,Tm m x
def Tm.wi:∀{m:Nat}{d:Ub}(j:Nat),Tm m d->Wi j d
 |_,_,0=>fun _=>trivial
 |0,d,j+1=>fun h=>fun ds hd=>by rw[show aJ d=Y from h]at hd;cases hd
 |m+1,d,j+1=>fun h=>fun ds hd=>⟨(h ds hd).1,fun x q=>((h ds hd).2 x q).wi j⟩
def Tm.up:∀{m:Nat}{d:Ub},Tm m d->Tm (m+1) d
 |0,d=>fun h=>fun ds hd=>by rw[show aJ d=Y from h]at hd;cases hd
 |m+1,d=>fun h=>fun ds hd=>⟨(h ds hd).1,fun x q=>((h ds hd).2 x q).up⟩
def Tm.upTo(h:Tm m d)(le:m<=k):Tm k d:=by
 induction le with
 |refl=>exact h
 |step _ ih=>exact ih.up
def tN{ds:T6}(q:ds.length<64)(h:∀x∈ds,Tm m x):Tm (m+1) (.tuple ds):=fun es t=>by
 cases t;exact⟨q,h⟩
def aGk(m:Nat)(i:Int):Tm m (.int i):=Tm.upTo (m:=0) rfl (E9 _)
def aAY(q:l.length<64):Tm 1 (tR l):=tN (by rw[A0];exact q) fun x t=>by
 obtain⟨i,_,rfl⟩:=List.mem_map.mp t;rfl
noncomputable def lsD:Nat->Ub->Ub
 |m+1,.tuple ds=>.list (ds.map (lsD m))
 |_,d=>d
def aDk:∀(m:Nat)(d:Ub)(M:Sto),Tm m d->cG (m+1) [.d d] M=Z (.d (lsD m d),M):=by
 have non:∀(m:Nat)(d:Ub)(M:Sto),(∀ds,d≠.tuple ds)->lsD m d=d/\cG (m+1) [.d d] M=Z (.d d,M):=fun m d M h=>by
  cases d with
  |tuple ds=>exact absurd rfl (h ds)
  |_=>exact⟨by cases m<;>rfl,rfl⟩
 intro m
 induction m with
 |zero=>
  intro d M h;obtain⟨u,A⟩:=non 0 d M fun ds e=>by rw[e]at h;cases h
  rw[u];exact A
 |succ m ih=>
  intro d M h;by_cases q:∃ds,d=.tuple ds
  .obtain⟨ds,rfl⟩:=q;obtain⟨E,C⟩:=h ds rfl;have D:=vT (i:=0) (cap:=[Y]) (f:=aB 0) (e:=aH (cG (m+1)) (aA (aB 0) aE)) (γ:=[Z (.d (.tuple ds))]) (M:=M) (h:=lsD m) rfl rfl (by omega) fun x B=>aK (aF rfl aI) (ih x M (C x B));show fnF 1 1 (pK (cG (m+1))) [.d (.tuple ds)] M=_;refine eG rfl ?_;have t:cB (gB (wM "tuple" (aB 0))) [Z (.d (.tuple ds))] M=Z (false,M):=rfl;show aZ _ _ [Z (.d (.tuple ds))] M=_;rw[aV (show sIf _ _ _ [Z (.d (.tuple ds))] M=Z (.nx [Z (.d (.tuple ds))],M)from by rw[fR t];rfl)];exact fF D
  .obtain⟨u,A⟩:=non (m+1) d M fun ds e=>q ⟨ds,e⟩;rw[u];exact A
def ls_int{i:Int}:lsD m d=.int i↔d=.int i:=by
 cases d with
 |tuple ds=>
  cases m with
  |zero=>exact Iff.rfl
  |succ m=>exact⟨(fun h=>by cases h),(fun h=>by cases h)⟩
 |_=>cases m<;>exact Iff.rfl
def oA(m:Nat)(d:Ub):aJ (lsD m d)=aJ d\/∃k ds,aJ d=Z ds/\aJ (lsD m d)=Z (ds.map (lsD k)):=by
 cases d with
 |tuple ds=>
  cases m with
  |zero=>exact .inl rfl
  |succ m=>exact .inr ⟨m,ds,rfl,rfl⟩
 |_=>cases m<;>exact .inl rfl
def OX(m:Nat):∀ds:T6,cN (ds.map (lsD m))=cN ds
 |[]=>rfl
 |d::ds=>by
  have ih:=OX m ds;by_cases q:∃i,d=.int i
  .obtain⟨i,rfl⟩:=q;rw[B6,show lsD m (.int i)=.int i from ls_int.mpr rfl];show(cN (ds.map (lsD m))).bind _=(cN ds).bind _;rw[ih]
  .have n1:∀{e:Ub}{es:T6},(¬∃i,e=.int i)->cN (e::es)=Y:=fun{e es} h=>by
    cases e with
    |int i=>exact absurd ⟨i,rfl⟩ h
    |_=>rfl
   rw[B6,n1 q,n1 fun⟨i,h⟩=>q ⟨i,ls_int.mp h⟩]
def MD(m:Nat)(d:Ub):dB (lsD m d)=dB d:=by
 unfold dB;rcases oA m d with h|⟨k,ds,q,t⟩
 .rw[h]
 .rw[q,t];exact OX k ds
def aAu(m:Nat)(d:Ub):jZ (lsD m d)=jZ d:=by
 unfold jZ;rcases oA m d with h|⟨k,ds,q,t⟩
 .rw[h]
 .rw[q,t];show GN dB (ds.map (lsD k))=GN dB ds;clear q t
  induction ds with
  |nil=>rfl
  |cons x ds ih=>
   show(dB (lsD k x)).bind _=(dB x).bind _;rw[MD,ih]
def map_two{q t:Type}{f:q->t}{ds:Tx q}{x y:t}(h:ds.map f=[x,y]):∃a b,ds=[a,b]/\f a=x/\f b=y:=by
 have l:=C9 List.length h;rw[A0]at l;obtain⟨a,b,rfl⟩:=yM l;rw[B6,B6,List.map_nil,S3,S3]at h;exact⟨a,b,rfl,h.1,h.2.1⟩
def aDy(m:Nat)(d:Ub):fB (lsD m d)=fB d:=by
 rcases oA m d with h|⟨k,ds,t,u⟩
 .unfold fB;rw[h]
 .refine Option.ext fun r=>?_;rw[show(fB (lsD m d)=Z r)=(fB (lsD m d)=Z (r.1,r.2))from rfl,show(fB d=Z r)=(fB d=Z (r.1,r.2))from rfl,ringI_iff,ringI_iff,t,u];constructor
  .intro ⟨o,e,q⟩;obtain⟨a,b,rfl,A,B⟩:=map_two (D7 e);rw[ls_int.mp A];exact⟨b,rfl,by rw[<- MD k,B];exact q⟩
  .intro ⟨o,e,q⟩;cases e;exact⟨lsD k o,by rw[B6,B6,List.map_nil,show lsD k (.int r.1)=.int r.1 from ls_int.mpr rfl],by rw[MD];exact q⟩
def aAp(m:Nat)(d:Ub):kF (lsD m d)=kF d:=by
 unfold kF;rcases oA m d with h|⟨k,ds,q,t⟩
 .rw[h]
 .rw[q,t];show GN fB (ds.map (lsD k))=GN fB ds;clear q t
  induction ds with
  |nil=>rfl
  |cons x ds ih=>
   show(fB (lsD k x)).bind _=(fB x).bind _;rw[aDy,ih]
def aEf:∀{m:Nat}{d:Ub}(k:Nat),Tm m d->Tm m (lsD k d)
 |0,d=>fun k h=>by
  rcases oA k d with q|⟨j,ds,t,u⟩
  .exact q.trans h
  .rw[show aJ d=Y from h]at t;cases t
 |m+1,d=>fun k h=>fun ds hd=>by
  rcases oA k d with q|⟨j,es,t,u⟩
  .exact h ds (q.symm.trans hd)
  .rw[u]at hd;cases hd;refine⟨by rw[A0];exact(h es t).1,fun x A=>?_⟩;obtain⟨y,B,rfl⟩:=List.mem_map.mp A;exact aEf j ((h es t).2 y B)
def run(ls:T0)(os:Tg)(f l:Nat):T9:=dW (cat ls ((os.drop f).take (l-f)))
noncomputable def prs(m:Nat):Tx (Nat×Nat):=(List.range m).flatMap fun f=>(List.range (m-(f+1))).map fun i=>(f,f+2+i)
noncomputable def gud(m:Nat)(p:Nat×Nat):Bool:=decide (p.2-p.1<m)
def runs(ls:T0)(os:Tg):T0:=((prs os.length).filter (gud os.length)).map fun p=>run ls os p.1 p.2
def GK(ls:T0)(rs:T3):T0:=ls++rs.flatMap fun r=>runs ls (r.2.map Int.toNat)
def yP{p:Nat×Nat}(h:p∈prs m):p.1+2<=p.2/\p.2<=m:=by
 obtain⟨f,q,h⟩:=List.mem_flatMap.mp h;obtain⟨i,hi,rfl⟩:=List.mem_map.mp h;have:=List.mem_range.mp q;have:=List.mem_range.mp hi;dsimp only;omega
def aFW(m:Nat):(prs m).Nodup:=by
 refine List.pairwise_flatMap.mpr ⟨fun f _=>?_,?_⟩
 .exact List.pairwise_map.mpr (List.nodup_range.imp fun{a b} h e=>h (by have:=C9 Prod.snd e;dsimp only at this;omega))
 .refine List.nodup_range.imp fun{f g} h x q y t e=>h ?_;obtain⟨i,_,rfl⟩:=List.mem_map.mp q;obtain⟨j,_,rfl⟩:=List.mem_map.mp t;exact C9 Prod.fst e
def PB:∀m:Nat,m<9->(prs m).length<=4*(m-1):=by decide
structure Rng(ls:T0)(k:Nat)(os:Tg):Prop where
 k0:k<ls.length
 nd:os.Nodup
 io:∀j∈os,j∈inn ls k
def RgP.rng{k:Int}(h:RgP ls k os):Rng ls k.toNat (os.map Int.toNat):=by
 have pm:=(eL os).symm;rw[h.so]at pm
 have q:(os.map Int.toNat).Perm (inn ls k.toNat):=by
  have:=pm.map Int.toNat;rw[B9,show(Int.toNat ∘ fun j:Nat=>(j:Int))=id from funext fun j=>E3 j,List.map_id]at this;exact this
 exact⟨by have:=h.k0;omega,q.nodup_iff.mpr (List.nodup_range.filter _),fun j t=>q.mem_iff.mp t⟩
def run_mem{os:Tg}{f l:Nat}{x:Int}:x∈run ls os f l↔∃i j,f<=i/\i<l/\os[i]?=Z j/\x∈la ls j:=by
 unfold run;rw[(eL _).mem_iff];unfold cat;rw[List.mem_flatMap];constructor
 .rintro⟨j,t,q⟩;obtain⟨i,hi⟩:=List.mem_iff_getElem?.mp t;rw[List.getElem?_take]at hi;split at hi
  .rw[List.getElem?_drop]at hi;exact⟨f+i,j,by omega,by omega,hi,q⟩
  .cases hi
 .rintro⟨i,j,A,B,u,q⟩;refine⟨j,List.mem_iff_getElem?.mpr ⟨i-f,?_⟩,q⟩;rw[List.getElem?_take,A4 (by omega),List.getElem?_drop,show f+(i-f)=i by omega];exact u
def CZ(F:Fam ls)(h:j<ls.length):∃x,x∈la ls j:=List.exists_mem_of_ne_nil _ (F.ne _ (bS h))
def Rng.hold(F:Fam ls){os:Tg}(R:Rng ls k os)(A:j∈os):Sb (la ls j) (la ls k)/\la ls k≠la ls j/\∀l∈ls,Sb (la ls j) l->l≠la ls j->Sb l (la ls k)->l=la ls k:=by
 have hi:=R.io j A;have t:=bS (eH hi);have lk:=bS R.k0;have h:=inB_any.mp (List.mem_filter.mp hi).2;have u:=(fK (F.up _ lk) (F.up _ t)).mp h.1;refine⟨u.1,u.2,fun l q a b c=>E1 fun ne=>?_⟩;exact h.2 l q ((fK (F.up _ lk) (F.up _ q)).mpr ⟨c,fun e=>ne e.symm⟩) ((fK (F.up _ q) (F.up _ t)).mpr ⟨a,b⟩)
def Rng.one(F:Fam ls){os:Tg}(R:Rng ls k os){t:Nat}{x:Int}(h:os[i]?=Z j)(h':os[t]?=Z j')(u:x∈la ls j)(q:x∈la ls j'):i=t:=by
 have A:=Y9 h;have B:=Y9 h';by_cases e:j=j'
 .subst e;exact(List.getElem?_inj (List.getElem?_eq_some_iff.mp h).1 R.nd).mp (h.trans h'.symm)
 .exact(FO F (R.io j A) (R.io j' B) e x u q).elim
def Rng.two(F:Fam ls){os:Tg}(R:Rng ls k os){f l:Nat}(B:f+2<=l)(C:l<=os.length):∃a b,a∈os/\b∈os/\Ds (la ls a) (la ls b)/\Sb (la ls a) (run ls os f l)/\Sb (la ls b) (run ls os f l)/\Sb (run ls os f l) (la ls k):=by
 have t:os[f]?=Z os[f]:=B1 (by omega);have g2:os[f+1]?=Z os[f+1]:=B1 (by omega);refine⟨os[f],os[f+1],S9 _,S9 _,fun x q u=>?_,fun x q=>run_mem.mpr ⟨f,_,by omega,by omega,t,q⟩,fun x q=>run_mem.mpr ⟨f+1,_,by omega,by omega,g2,q⟩,fun x q=>?_⟩
 .have:=R.one F t g2 q u;omega
 .obtain⟨i,j,_,_,A,q⟩:=run_mem.mp q;exact(R.hold F (Y9 A)).1 x q
def Rng.inj(F:Fam ls){os:Tg}(R:Rng ls k os){f l:Nat}(H:f+2<=l)(A:l<=os.length)(C:f'+2<=l')(t:l'<=os.length)(e:run ls os f l=run ls os f' l'):f=f'/\l=l':=by
 have q:∀a b c d i,run ls os a b=run ls os c d->b<=os.length->a<=i->i<b->c<=i/\i<d:=fun a b c d i e I hi u=>by
  have g:os[i]?=Z os[i]:=B1 (by omega);obtain⟨x,B⟩:=CZ F (eH (R.io os[i] (S9 _)));have D:x∈run ls os c d:=e▸run_mem.mpr ⟨i,_,hi,u,g,B⟩;obtain⟨K,j',N,O,E,G⟩:=run_mem.mp D;have:=R.one F g E B G;omega
 have a:=q f l f' l' f e A (by omega) (by omega);have b:=q f l f' l' (l-1) e A (by omega) (by omega);have c:=q f' l' f l f' e.symm t (by omega) (by omega);have d:=q f' l' f l (l'-1) e.symm t (by omega) (by omega);omega
def Rng.nolink(F:Fam ls){os:Tg}(R:Rng ls k os){f l:Nat}(G:f+2<=l)(H:l<=os.length)(Q:l-f<os.length){t:T9}(ht:t∈ls)(e:t=run ls os f l):False:=by
 obtain⟨a,b,ha,I,ds,u,sb,A⟩:=R.two F G H;rw[<- e]at u sb A;obtain⟨y,B⟩:=CZ F (eH (R.io b I));have K:=(R.hold F ha).2.2 t ht u (fun q=>ds y (q▸sb y B) B) A
 obtain⟨c,C,N⟩:∃c,c<os.length/\(c<f\/l<=c):=by
  by_cases q:f=0
  .exact⟨l,by omega,.inr (B4 _)⟩
  .exact⟨0,by omega,.inl (by omega)⟩
 have g:os[c]?=Z os[c]:=B1 C;have hm:os[c]∈os:=S9 C;obtain⟨x,D⟩:=CZ F (eH (R.io os[c] hm));have E:=(R.hold F hm).1 x D;rw[<- K,e]at E;obtain⟨i,j,S,T,O,P⟩:=run_mem.mp E;have:=R.one F g O D P;omega
def Rng.cross(F:Fam ls){os:Tg}(R:Rng ls k os)(A:Rng ls k' t)(ne:k≠k')(sb:Sb (la ls k) (la ls k')){f l:Nat}(H:f+2<=l)(I:l<=os.length)(B:f'+2<=l')(C:l'<=t.length)(e:run ls os f l=run ls t f' l'):False:=by
 obtain⟨_,_,_,_,_,_,_,D⟩:=R.two F H I;obtain⟨a,b,ha,K,ds,E,u,_⟩:=A.two F B C;rw[<- e]at E u;obtain⟨y,G⟩:=CZ F (eH (A.io b K));have:=(A.hold F ha).2.2 (la ls k) (bS R.k0) (fun x N=>D x (E x N)) (fun q=>ds y (q▸D y (u y G)) G) sb;exact ne (vZ F.nd R.k0 A.k0 this)
def Rng.apart(F:Fam ls){os:Tg}(R:Rng ls k os)(A:Rng ls k' q)(ne:k≠k'){f l:Nat}(B:f+2<=l)(C:l<=os.length)(t:f'+2<=l')(u:l'<=q.length)(e:run ls os f l=run ls q f' l'):False:=by
 rcases F.lam _ (bS R.k0) _ (bS A.k0)with h|h|h
 .exact R.cross F A ne h B C t u e
 .exact A.cross F R (U3 ne) h t u B C e.symm
 .obtain⟨a,_,ha,_,_,E,_,H⟩:=R.two F B C;obtain⟨_,_,_,_,_,_,_,D⟩:=A.two F t u;obtain⟨x,G⟩:=CZ F (eH (R.io a ha));exact h x (H x (E x G)) (D x (e▸E x G))
def uU{os:Tg}{u:T9}(h:u∈runs ls os):∃f l,f+2<=l/\l<=os.length/\l-f<os.length/\u=run ls os f l:=by
 obtain⟨p,q,rfl⟩:=List.mem_map.mp h;obtain⟨q,t⟩:=List.mem_filter.mp q;have:=yP q;exact⟨p.1,p.2,this.1,this.2,D9 t,rfl⟩
def JM(P:RsP ls rs):rs.Pairwise fun a b=>a.1.toNat≠b.1.toNat/\RgP ls a.1 a.2/\RgP ls b.1 b.2:=by
 have u:=List.pairwise_map.mp P.up;refine A0m (fun{a b} ha q h=>⟨?_,P.rg a ha,P.rg b q⟩) u;have:=(P.rg a ha).k0;have:=(P.rg b q).k0;omega
def aBL(C:Ch n ls rs):(GK ls rs).Nodup:=by
 have F:=C.ln.fam;refine List.nodup_append.mpr ⟨F.nd,?_,fun t ht u A e=>?_⟩
 .refine List.pairwise_flatMap.mpr ⟨fun r B=>?_,(JM C.rp).imp fun{a b} h x I y K e=>?_⟩
  .have R:=(C.rp.rg r B).rng;refine List.pairwise_map.mpr (A0m (fun{p q} N O ne e=>ne ?_) ((aFW _).filter _));have a:=yP (List.mem_filter.mp N).1;have b:=yP (List.mem_filter.mp O).1;have:=R.inj F a.1 a.2 b.1 b.2 e;exact Prod.ext this.1 this.2
  .obtain⟨f,l,D,E,_,rfl⟩:=uU I;obtain⟨f',l',G,H,_,rfl⟩:=uU K;exact h.2.1.rng.apart F h.2.2.rng h.1 D E G H e
 .obtain⟨r,B,A⟩:=List.mem_flatMap.mp A;obtain⟨f,l,D,E,P,rfl⟩:=uU A;exact(C.rp.rg r B).rng.nolink F D E P ht e
noncomputable abbrev hd(l:T9):Int:=l.headD 0
def oU(h:l≠[]):hd l∈l:=by cases l with|nil=>exact absurd rfl h|cons x r=>exact A9
def ZK(u:Up l){x:Int}(hx:x∈l):hd l<=x:=by
 cases l with
 |nil=>cases hx
 |cons y r=>
  rcases List.mem_cons.mp hx with rfl|hx
  .exact Int.le_refl _
  .exact Int.le_of_lt ((List.pairwise_cons.mp u).1 x hx)
def Hs(ls:T0)(r:Int×T9):T9:=((r.2.map Int.toNat).filter fun j=>decide (hd (la ls j)≠hd (la ls r.1.toNat))).map fun j=>hd (la ls j)
def aCI{l:Tg}(nd:l.Nodup)(h:∀a∈l,∀b∈l,a=b):l.length<=1:=by
 match l,nd,h with
 |[],_,_=>exact E9 _
 |[_],_,_=>exact B4 _
 |a::b::r,nd,h=>exact((List.nodup_cons.mp nd).1 (by rw[h a (by simp) b (by simp)];exact A9)).elim
def QJ{q:Type}(p:q->Bool):∀l:Tx q,l.length=(l.filter p).length+(l.filter fun x=>!p x).length
 |[]=>rfl
 |x::l=>by
  have:=QJ p l;rw[List.filter_cons,List.filter_cons,L7];cases p x<;>simp<;>omega
def Rng.hds(F:Fam ls){os:Tg}(R:Rng ls k os)(hi:i∈os)(q:j∈os)(e:hd (la ls i)=hd (la ls j)):i=j:=E1 fun ne=>
 FO F (R.io i hi) (R.io j q) ne _ (oU (F.ne _ (bS (eH (R.io i hi))))) (e▸oU (F.ne _ (bS (eH (R.io j q)))))
def YU(F:Fam ls){r:Int×T9}(h:RgP ls r.1 r.2):r.2.length<=(Hs ls r).length+1:=by
 have R:=h.rng;have l:=QJ (fun j=>decide (hd (la ls j)≠hd (la ls r.1.toNat))) (r.2.map Int.toNat);rw[A0]at l
 have o:=aCI (l:=(r.2.map Int.toNat).filter fun j=>!decide (hd (la ls j)≠hd (la ls r.1.toNat))) (R.nd.filter _) fun a ha b A=>by
  have t:=List.mem_filter.mp ha;have u:=List.mem_filter.mp A;have B:hd (la ls a)=hd (la ls r.1.toNat):=Decidable.of_not_not fun q=>by have:=t.2;rw[C7 q]at this;cases this
  have C:hd (la ls b)=hd (la ls r.1.toNat):=Decidable.of_not_not fun q=>by have:=u.2;rw[C7 q]at this;cases this
  exact R.hds F t.1 u.1 (B.trans C.symm)
 unfold Hs;rw[A0];omega
def Rng.heads(F:Fam ls){os:Tg}(R:Rng ls k os)(B:Rng ls k' u)(ne:k≠k')(D:j∈os)(A:j'∈u)(sb:Sb (la ls k) (la ls k'))(h:hd (la ls j)≠hd (la ls k)):hd (la ls j)≠hd (la ls j'):=fun e=>by
 have G:=bS (eH (R.io j D));have t:=bS (eH (B.io j' A));have mk:=bS R.k0;have H:=oU (F.ne _ G);have E:=(R.hold F D).1 _ H;have C:hd (la ls j)∈la ls j':=e▸oU (F.ne _ t);rcases F.lam _ t _ mk with q|q|q
 .by_cases w:la ls k=la ls j'
  .exact h (by rw[e,w])
  .exact ne (vZ F.nd R.k0 B.k0 ((B.hold F A).2.2 _ mk q w sb))
 .have a:=ZK (F.up _ t) (q _ (oU (F.ne _ mk)));have b:=ZK (F.up _ mk) E;omega
 .exact q _ C E
def NR{r:Int×T9}{x:Int}(h:x∈Hs ls r):∃j,j∈r.2.map Int.toNat/\hd (la ls j)≠hd (la ls r.1.toNat)/\x=hd (la ls j):=by
 obtain⟨j,q,rfl⟩:=List.mem_map.mp h;have:=List.mem_filter.mp q;exact⟨j,this.1,D9 this.2,rfl⟩
def aIC(F:Fam ls)(P:RsP ls rs):(rs.flatMap (Hs ls)).Nodup:=by
 refine List.pairwise_flatMap.mpr ⟨fun r A=>?_,(JM P).imp fun{a b} h x B y C e=>?_⟩
 .have R:=(P.rg r A).rng;exact List.pairwise_map.mpr (A0m (fun{i j} hi t ne e=>ne (R.hds F (List.mem_filter.mp hi).1 (List.mem_filter.mp t).1 e)) (R.nd.filter _))
 .obtain⟨i,hi,D,rfl⟩:=NR B;obtain⟨j,t,E,rfl⟩:=NR C;have R:=h.2.1.rng;have u:=h.2.2.rng;rcases F.lam _ (bS R.k0) _ (bS u.k0)with q|q|q
  .exact R.heads F u h.1 hi t q D e
  .exact u.heads F R (U3 h.1) t hi q E e.symm
  .have a:=(R.hold F hi).1 _ (oU (F.ne _ (bS (eH (R.io i hi)))));have b:=(u.hold F t).1 _ (oU (F.ne _ (bS (eH (u.io j t)))));exact q _ a (e▸b)
def XH(C:Ch n ls rs)(B:n<=9):(rs.flatMap (Hs ls)).length<=7:=by
 have F:=C.ln.fam
 have:=U6 (l₁:=rs.flatMap (Hs ls)) (l₂:=(List.range 7).map fun k:Nat=>(k:Int)+2) (aIC F C.rp) fun x q=>by
  obtain⟨r,A,q⟩:=List.mem_flatMap.mp q;obtain⟨j,t,D,rfl⟩:=NR q;have R:=(C.rp.rg r A).rng;have mk:=bS R.k0;have u:=(R.hold F t).1 _ (oU (F.ne _ (bS (eH (R.io j t)))));have a:=ZK (F.up _ mk) u;have b:=(C.ln.lk _ mk).io _ u;have d:=(C.ln.lk _ mk).io _ (oU (F.ne _ mk));exact List.mem_map.mpr ⟨(hd (la ls j)-2).toNat,List.mem_range.mpr (by omega),by omega⟩
 rw[A0,E8]at this;exact this
def QL{t u γ:Type}{f:t->Tx u}{g:t->Tx γ}:∀rs:Tx t,(∀r∈rs,(f r).length<=4*(g r).length)->(rs.flatMap f).length<=4*(rs.flatMap g).length
 |[]=>fun _=>E9 _
 |r::rs=>fun h=>by
  have a:=h r A9;have b:=QL rs fun q A=>h q (B0 _ A);rw[O8,O8,A6,A6];omega
def QB{t u:Type}{f:t->Tx u}:∀{rs:Tx t}{r:t},r∈rs->(f r).length<=(rs.flatMap f).length
 |q::rs,r,h=>by
  rw[O8,A6];rcases List.mem_cons.mp h with rfl|h
  .omega
  .have:=QB (f:=f) h;omega
def MV(C:Ch n ls rs)(t:n<=9):∀r∈rs,r.2.length<=8:=fun r q=>by
 have a:=YU C.ln.fam (C.rp.rg r q);have b:=QB (f:=Hs ls) q;have d:=XH C t;omega
def BJ{ls:List (List Int)}{rs:List (Int×List Int)}(C:Ch n ls rs)(q:n<=9):(GK ls rs).length<=61:=by
 have l1:=C.l1;have d:=XH C q
 have e:=QL (f:=fun r:Int×List Int=>runs ls (r.2.map Int.toNat)) (g:=Hs ls) rs fun r t=>by
  have a:=YU C.ln.fam (C.rp.rg r t);have b:=MV C q r t;have c:=PB r.2.length (by omega);unfold runs;rw[A0,A0];have:=O6 (gud r.2.length) (prs r.2.length);omega
 unfold GK;rw[A6];omega
def PV(C:Ch n ls rs):∀u∈GK ls rs,u≠[]:=fun u q e=>by
 have F:=C.ln.fam;rcases List.mem_append.mp q with h|h
 .exact F.ne u h e
 .obtain⟨r,t,q⟩:=List.mem_flatMap.mp h;obtain⟨f,l,A,B,_,rfl⟩:=uU q;have R:=(C.rp.rg r t).rng;obtain⟨a,_,ha,_,_,D,_,_⟩:=R.two F A B;obtain⟨x,E⟩:=CZ F (eH (R.io a ha));have:=D x E;rw[e]at this;cases this
def aHm{M1:Sto}{x:Ub}(h:f γ M=Z (.d x,M1)):cT (aA f aE) γ M=Z (.d (.tuple [x]),M1):=by
 unfold cT;rw[aF h aI,A2];show(if 1<=sizeLine then Z (CD.d (.tuple [x]),M1)else Y)=_;rw[A4 (sz (by decide))]
def MB{g:EF}{M1 M2:Sto}{x y:Ub}(h:f γ M=Z (.d x,M1))(q:g γ M1=Z (.d y,M2)):cT (aA f (aA g aE)) γ M=Z (.d (.tuple [x,y]),M2):=by
 unfold cT;rw[aF h (aF q aI),A2];show(if 2<=sizeLine then Z (CD.d (.tuple [x,y]),M2)else Y)=_;rw[A4 (sz (by decide))]
def LC{t:Type}{g:GF}{e:EF}{M:Sto}(f:t->CD)(h:t->Ub){Sh:Ga->Prop}:∀(xs:Tx t)(γ:Ga),Sh γ->(∀x∈xs,∀γ,Sh γ->∃γ1,Sh γ1/\g (f x) γ M=Z (γ1,M)/\e γ1 M=Z (.d (h x),M))->∃q,Sh q/\lcG g cF e (xs.map f) γ M=Z (((xs.map h).map .d,q),M)
 |[]=>fun γ s _=>⟨γ,s,rfl⟩
 |x::xs=>fun γ s u=>by
  obtain⟨γ1,s1,A,B⟩:=u x A9 γ s;obtain⟨q,C,ih⟩:=LC (g:=g) (e:=e) (M:=M) f h xs γ1 s1 fun y D=>u y (B0 _ D);refine⟨q,C,?_⟩;rw[B6];unfold lcG;rw[A,A2];show(cF γ1 M).bind _=_;unfold cF;rw[A2];dsimp only;rw[A4 rfl,B,A2];dsimp only;unfold cF at ih;rw[ih];rfl
def LJ{t:Type}{g g2:GF}{fa2:AF}{e:EF}{M:Sto}(u:t->CD)(H:t->T6){Sh:Ga->Prop}:∀(ys:Tx t)(γ:Ga),Sh γ->(∀y∈ys,∀γ,Sh γ->∃γ1 xs q,Sh q/\g (u y) γ M=Z (γ1,M)/\fa2 γ1 M=Z (xs,M)/\lcG g2 cF e xs γ1 M=Z (((H y).map .d,q),M))->JS g cF fa2 g2 cF e (ys.map u) γ M=Z ((ys.flatMap H).map .d,M)
 |[]=>fun γ s _=>rfl
 |y::ys=>fun γ s A=>by
  obtain⟨γ1,xs,q,s2,B,C,D⟩:=A y A9 γ s;have ih:=LJ (g:=g) (g2:=g2) (fa2:=fa2) (e:=e) (M:=M) u H ys q s2 fun z E=>A z (B0 _ E);rw[B6];unfold JS;rw[B,A2];show(cF γ1 M).bind _=_;rw[show cF γ1 M=Z (true,M)from rfl,A2];dsimp only;rw[A4 rfl,C,A2];dsimp only;rw[D,A2];dsimp only;rw[ih,O8,F7];rfl
def OE{f:AF}{g2:GF}(it:f γ M=Z (xs,M))(h:JS g cF q g2 cF e xs (jS cap γ) M=Z (ds.map .d,M))(t:ds.length<=900):LS cap f g cF q g2 cF e γ M=Z (.d (.list ds),M):=by
 unfold LS;rw[it,A2];dsimp only;rw[h,A2];dsimp only;rw[eA,A2,A4 (by have:=sz (n:=1000) (B4 _);omega)]
def CH:∀{rows:T6}{ws:T0},rows.map dB=ws.map Z->(rows.flatMap fun r=>(aJ r).getD [])=ws.flatten.map .int
 |[],[]=>fun _=>rfl
 |r::rows,w::ws=>fun h=>by
  have q:dB r=Z w:=(List.cons.inj h).1;rw[O8,List.flatten_cons,F7,CH (List.cons.inj h).2,rowI_iff.mp q];rfl
 |[],_::_=>fun h=>by cases h
 |_::_,[]=>fun h=>by cases h
def aAs{ws:T0}(h:rows.map dB=ws.map Z)(E:rows.length<=900)(B:ws.flatten.length<64):uP [.d (.list rows)] M=Z (.d (tR (dW ws.flatten)),M):=by
 have C:tU [Z (.d (.list rows))] M=Z (.d (.list (ws.flatten.map .int)),M):=by
  unfold tU;refine OE (fA (iW rfl) rfl) ?_ (by rw[A0];omega);rw[<- CH h];refine LJ (Sh:=fun γ=>∃a b,γ=[a,b]) .d (fun r=>(aJ r).getD []) rows _ ⟨Y,Y,rfl⟩ ?_;rintro r u γ ⟨a,b,rfl⟩;obtain⟨w,_,t⟩:=(kX h).1 r u;have t:=rowI_iff.mp t
  obtain⟨A,D,q⟩:=LC (g:=hName 1) (e:=aB 1) (M:=M) (Sh:=fun γ=>∃a b,γ=[a,b]) .d id (w.map .int) [Z (.d r),b] ⟨_,_,rfl⟩ (by
   rintro x _ γ ⟨a,b,rfl⟩;exact⟨_,⟨a,Z (.d x),rfl⟩,rfl,rfl⟩)
  refine⟨[Z (.d r),b],(w.map PyData.int).map .d,A,D,rfl,fA (iW rfl) t,?_⟩;rw[t];rw[List.map_id]at q;exact q
 refine eG rfl (fF ?_);exact aK (aF (aK (aF C aI) (uK rfl B)) aI) rfl
noncomputable abbrev pD(p:Nat×Nat):Ub:=.tuple [.int p.1,.int p.2]
def aCy(m:Nat):(prs m).map pD=(List.range m).flatMap fun f=>(List.range (m-(f+1))).map fun i=>pD (f,f+2+i):=by
 unfold prs;rw[List.map_flatMap];congr 1;funext f;rw[B9];rfl
def PF(h:m<=8):(prs m).length<=28:=by
 have:=PB m (by omega);omega
def aII{rows:Ub}(hm:m<=8):lP [Z (.d rows),Z (I m),Y] M=Z (.d (.list ((prs m).map pD)),M):=by
 unfold lP;refine OE (xs:=(List.range m).map fun j:Nat=>I j) (FT rfl (by omega)) ?_ (by rw[A0];have:=PF hm;omega);rw[aCy];refine LJ (Sh:=fun γ=>∃a b,γ=[Z (I m),a,b]) (fun j:Nat=>I j) (fun f=>(List.range (m-(f+1))).map fun i=>pD (f,f+2+i)) (List.range m) _ ⟨Y,Y,rfl⟩ ?_;rintro f t γ ⟨a,b,rfl⟩;have t:=List.mem_range.mp t;have u:aA (fOp eF (aB 1) (fC (.int 2))) (aA (fOp eF (aB 0) (fC (.int 1))) aE) [Z (I m),Z (I f),b] M=Z ([I ((f:Int)+2),I ((m:Int)+1)],M):=aF (aX rfl rfl rfl) (aF (aX rfl rfl rfl) aI);have rg:=PK u (mP (by omega) (by omega)) (mP (by omega) (by omega))
 have e:iE ((f:Int)+2) ((m:Int)+1-((f:Int)+2)).toNat=(List.range (m-(f+1))).map fun i:Nat=>I ((f:Int)+2+i):=by
  unfold iE;rw[show((m:Int)+1-((f:Int)+2)).toNat=m-(f+1)by omega]
 rw[e]at rg
 obtain⟨A,B,q⟩:=LC (g:=hName 2) (e:=cT (aA (aB 1) (aA (aB 2) aE))) (M:=M) (Sh:=fun γ=>∃b,γ=[Z (I m),Z (I f),b]) (fun i:Nat=>I ((f:Int)+2+i)) (fun i=>pD (f,f+2+i)) (List.range (m-(f+1))) [Z (I m),Z (I f),b] ⟨b,rfl⟩ (by
  rintro i hi γ ⟨b,rfl⟩;refine⟨_,⟨Z (I ((f:Int)+2+i)),rfl⟩,rfl,?_⟩;show cT _ [Z (I m),Z (I f),Z (I ((f:Int)+2+i))] M=Z (.d (.tuple [.int f,.int ((f+2+i:Nat):Int)]),M);rw[show((f+2+i:Nat):Int)=(f:Int)+2+i by omega];exact MB rfl rfl)
 obtain⟨C,rfl⟩:=B;exact⟨_,_,_,⟨_,_,rfl⟩,rfl,rg,q⟩
def QE(ls:T0)(os:Tg)(f l:Nat):(cat ls ((os.drop f).take (l-f))).length<=(cat ls os).length:=by
 have s:((os.drop f).take (l-f)).Sublist os:=(List.take_sublist _ _).trans (List.drop_sublist _ _);rw[GO,GO]
 have:∀{a b:Tg},a.Sublist b->(a.map fun j=>(la ls j).length).sum<=(b.map fun j=>(la ls j).length).sum:=fun h=>by
  induction h with
  |slnil=>exact B4 _
  |cons x _ ih=>rw[B6,A0n];omega
  |cons_cons x _ ih=>rw[B6,B6,A0n,A0n];omega
 exact this s
def EK{os:Tg}(h:rows.map dB=os.map fun j=>Z (la ls j))(hm:os.length<=8)(E:(cat ls os).length<64):oK [.d (.list rows)] M=Z (.c M.length,M++[.lst ((runs ls os).map lT)]):=by
 have A:rows.length=os.length:=by have:=C9 List.length h;rwa [A0,A0]at this
 refine eG rfl ?_;unfold oJ;show aZ _ _ [Z (.d (.list rows)),Y,Y] M=_;rw[aV (bJ (x:=I rows.length) (aK (aF rfl aI) (fG rfl M))),A];show aZ _ _ [Z (.d (.list rows)),Z (I os.length),Y] M=_;rw[aV (bJ (aII hm))];refine fF ?_;unfold rE;have ln:=PF hm
 have q:=zQ (g:=kE 2 (bI (hName 2) (bI (hName 3) gW))) (c:=gB (fOp ltI (fOp wH (aB 3) (aB 2)) (aB 1))) (e:=aH uP (aA (fSl (aB 0) (bY (aB 2)) (bY (aB 3))) aE)) (M:=M) (fun p:Nat×Nat=>CD.d (pD p)) (gud os.length) (fun p=>tR (run ls os p.1 p.2)) (Sh:=fun γ=>∃a b,γ=[Z (.d (.list rows)),Z (I os.length),a,b]) (prs os.length) [Z (.d (.list rows)),Z (I os.length),Y,Y] ⟨Y,Y,rfl⟩ (by
  rintro⟨f,l⟩ t γ ⟨a,b,rfl⟩;have t:=yP t;dsimp only at t;refine⟨_,⟨Z (I f),Z (I l),rfl⟩,rfl,?_,fun F=>?_⟩
  .refine bM ?_;show fOp ltI (fOp wH (aB 3) (aB 2)) (aB 1) [Z (.d (.list rows)),Z (I os.length),Z (I f),Z (I l)] M=Z (B (gud os.length (f,l)),M);rw[show gud os.length (f,l)=decide ((l:Int)-f<(os.length:Int))by unfold gud;exact decide_eq_decide.mpr (by dsimp only;omega)];exact aX (aX rfl rfl rfl) rfl rfl
  .have C:fU rows (Z (f:Int)) (Z (l:Int))=(rows.drop f).take (l-f):=ER rows f l (by omega) (by omega)
   have D:((rows.drop f).take (l-f)).map dB=(((os.drop f).take (l-f)).map (la ls)).map Z:=by
    rw[A0o,List.map_drop,h,<- List.map_drop,<- A0o,B9];rfl
   have u:(((os.drop f).take (l-f)).map (la ls)).flatten=cat ls ((os.drop f).take (l-f)):=rfl;have lt:=QE ls os f l;have j:=aAs (M:=M) D (by rw[Y3,A0g];omega) (by rw[u];omega);rw[u]at j;refine aK (aF (uE rfl rfl rfl (?_:slF (.d (.list rows)) (Z (f:Int)) (Z (l:Int)) M=Z (.d (.list ((rows.drop f).take (l-f))),M))) aI) j;show Z (CD.d (.list (fU rows (Z (f:Int)) (Z (l:Int)))),M)=_;rw[C])
 have:=FF (cap:=[Z 0,Z 1,Y,Y]) (f:=aY (aB 2)) (γ:=[Z (.d (.list rows)),Z (I os.length),Z (.d (.list ((prs os.length).map pD)))]) (M:=M) (fA (iW rfl) rfl) (by rw[A0,A0];omega) (by
  rw[B9];exact q) (by rw[A0,A0];have:=O6 (gud os.length) (prs os.length);omega)
 refine this.trans ?_;unfold runs;rw[B9,B9];rfl
def CW{ls:T0}(h:∀l∈ls,l≠[])(u:ls.length<64):∃vs:T0,vs.Perm ls/\∀c M,M[c]?=Z (.lst (ls.map lT))->dO [.c c] M=Z (.d (lR vs),M):=by
 obtain⟨vs,p,s,e⟩:=DT (ls:=ls) (c:=0) (M:=[.lst (ls.map lT)]) rfl h u;refine⟨vs,p,fun c M t=>?_⟩
 have al:iU (ls.map lT)=Z (ls.map tR):=by
  rw[show ls.map lT=(ls.map tR).map .d by rw[B9];rfl,eA]
 have g:∀c (M:Sto),M[c]?=Z (.lst (ls.map lT))->dO [.c c] M=(dO [.d (lR ls)] []).map fun r=>(r.1,M):=fun c M t=>by
  unfold dO
  have a:iV [.c c] M=(iV [.d (lR ls)] []).map fun r=>(r.1,M):=by
   show(match M[c]? with|some (.lst xs)=>_|_=>_)=_;simp only[iV,t,al,Option.bind_some,List.length_map];split<;>rfl
  have b:mL [.c c] M=(mL [.d (lR ls)] []).map fun r=>(r.1,M):=by
   simp only[mL,t,al,Option.bind_some];show _=Option.map _ ((rowsOf (ls.map tR)).bind _);rw[HI,A2,A2];split<;>rfl
  rw[a,b];cases iV [.d (lR ls)] []<;>rfl
 rw[g 0 _ rfl]at e;rw[g c M t];cases q:dO [.d (lR ls)] []with
 |none=>rw[q]at e;cases e
 |some r=>
  rw[q]at e;have A:=C9 Prod.fst (D7 e);show Z (r.1,M)=_;rw[show r.1=_ from A]
def RA{x:Cell}(h:∃L,M=M0++L)(q:M0.length<=c):∃L,M.set c x=M0++L:=by
 obtain⟨L,rfl⟩:=h;exact⟨_,List.set_append_right _ _ q⟩
abbrev GS(n d a b:CD)(c:Nat)(g5 g6:Th):Ga:=[Z n,Z d,Z a,Z b,Z (.c c),g5,g6]
noncomputable def ixR(ds:T6):Ub->Ub
 |.int j=>ds.getD j.toNat .none
 |_=>.none
def aCb{n d b:CD}{a:Ub}{k:Int}{acc:T0}{g5:Th}(F:Fam ls)(G:∀l∈ls,l.length<=8)(ha:aJ a=Z ds)(e:ds.map dB=ls.map Z)(R:RgP ls k os)(H:os.length<=8)(I:dB o=Z os)(B:M[c]?=Z (.lst (acc.map lT)))(Q:acc.length+(runs ls (os.map Int.toNat)).length<=900):
 ∃M',jX (GS n d (.d a) b c g5 (Z (.d o))) M=Z (.nx (GS n d (.d a) b c g5 (Z (.d o))),M')/\M'=(M++[Cell.lst ((runs ls (os.map Int.toNat)).map lT)]).set c (.lst ((acc++runs ls (os.map Int.toNat)).map lT)):=by
 have C:=(List.getElem?_eq_some_iff.mp B).1;have io:=rowI_iff.mp I;have S:=lC e
 have D:∀j∈os,∃x,atI ds j=Z x/\ixR ds (.int j)=x/\dB x=Z (la ls j.toNat):=fun j A=>by
  have q:=R.o j A;obtain⟨x,u,t⟩:=QM e (j:=j.toNat) (by omega);refine⟨x,?_,?_,rowI_iff.mpr t⟩
  .rw[show j=((j.toNat:Nat):Int)by omega];exact iR u
  .show ds.getD j.toNat .none=x;rw[A8,u];rfl
 have K:kI (GS n d (.d a) b c g5 (Z (.d o))) M=Z (.d (.list ((os.map .int).map (ixR ds))),M):=by
  unfold kI;refine vT (f:=aB 6) rfl io (by rw[A0];omega) fun x N=>?_;obtain⟨j,A,rfl⟩:=List.mem_map.mp N;obtain⟨x,u,t,_⟩:=D j A;rw[t];exact aX rfl rfl (iB ha u)
 have O:((os.map PyData.int).map (ixR ds)).map dB=(os.map Int.toNat).map fun j=>Z (la ls j):=by
  rw[B9,B9,B9];refine Z2 fun j A=>?_;obtain⟨x,_,t,P⟩:=D j A;show dB (ixR ds (.int j))=Z (la ls j.toNat);rw[t,P]
 have E:k.toNat<ls.length:=by have:=R.k0;omega
 have T:=zW F E R.so;have U:=G _ (bS E);have rs:=EK (M:=M) O (by rw[A0];exact H) (by omega);refine⟨_,uQ (x:=.d .none) (jJ (x:=.c c) rfl (IY B) (aF (aK (aF K aI) rs) aI) ?_),rfl⟩;have u:(M++[Cell.lst ((runs ls (os.map Int.toNat)).map lT)])[c]?=Z (.lst (acc.map lT)):=by rw[E6 C];exact B
 have t:=gE (M:=M) (c:=Cell.lst ((runs ls (os.map Int.toNat)).map lT));unfold uV;dsimp only;rw[u,t];dsimp only;rw[A4 (sz (by rw[A0,A0];omega)),<- F7]
def VS{x a b:Ub}{n d p:CD}(h:aJ x=Z [a,b]):qM 2 (bI (hName 5) (bI (hName 6) gW)) (.d x) (GS n d p q c g5 g6) M=Z (GS n d p q c (Z (.d a)) (Z (.d b)),M):=by
 cases x with
 |list xs=>cases h;rfl
 |tuple xs=>cases h;rfl
 |_=>cases h
abbrev rnS(ls:T0)(r:Int×T9):T0:=runs ls (r.2.map Int.toNat)
def ON{n d b:CD}{a:Ub}{ds:T6}{c:Nat}{M0:Sto}(F:Fam ls)(E:∀l∈ls,l.length<=8)(ha:aJ a=Z ds)(e:ds.map dB=ls.map Z)(G:M0.length<=c):∀(xs:T6)(rs:T3)(acc:T0)(g5 g6:Th)(M:Sto),xs.map fB=rs.map Z->(∀r∈rs,RgP ls r.1 r.2/\r.2.length<=8)->M[c]?=Z (.lst (acc.map lT))->acc.length+(rs.flatMap (rnS ls)).length<=900->(∃L,M=M0++L)->
 ∃u A M',hV (qM 2 (bI (hName 5) (bI (hName 6) gW))) jX (xs.map .d) (GS n d (.d a) b c g5 g6) M=Z (.nx (GS n d (.d a) b c u A),M')/\M'[c]?=Z (.lst ((acc++rs.flatMap (rnS ls)).map lT))/\∃L,M'=M0++L
 |[],[]=>fun acc g5 g6 M _ _ B _ C=>⟨g5,g6,M,rfl,by rw[List.flatMap_nil,D8];exact B,C⟩
 |x::xs,r::rs=>fun acc g5 g6 M H I B O C=>by
  have D:fB x=Z (r.1,r.2):=(List.cons.inj H).1;obtain⟨o,i1,i2⟩:=ringI_iff.mp D;rw[O8,A6]at O;have K:=I r A9;obtain⟨M1,t,N⟩:=aCb (n:=n) (d:=d) (b:=b) (g5:=Z (.d (.int r.1))) F E ha e K.1 K.2 i2 B (by have:(runs ls (r.2.map Int.toNat)).length=(rnS ls r).length:=rfl;omega);have P:=(List.getElem?_eq_some_iff.mp B).1
  have Q:M1[c]?=Z (.lst ((acc++rnS ls r).map lT)):=by
   rw[N,E2 (by rw[A6];omega)]
  have R:∃L,M1=M0++L:=by
   rw[N];obtain⟨L,rfl⟩:=C;exact RA ⟨_,F0 _ _ _⟩ G
  obtain⟨u,A,M',l,S,T⟩:=ON F E ha e G xs rs (acc++rnS ls r) _ _ M1 (List.cons.inj H).2 (fun q U=>I q (B0 _ U)) Q (by rw[A6];omega) R;refine⟨u,A,M',?_,by rw[S,O8,F0],T⟩;rw[B6,dP (VS i1) t];exact l
 |[],_::_=>fun _ _ _ _ h _ _ _ _=>by cases h
 |_::_,[]=>fun _ _ _ _ h _ _ _ _=>by cases h
def aEO(hn:n<=40)(q:Wi 4 d)(h:¬ChD n d):∃L,cZ [I n,.d d] M=Z (.x ⟨"NoChart",[]⟩,M++L):=by
 obtain⟨L,e⟩:=BL (M:=M) hn q;refine⟨L,?_⟩;rw[fV h]at e
 have t:cB (gB (aH lY (aA (aB 0) (aA (aB 1) aE)))) [Z (I n),Z (.d d),Y,Y,Y,Y,Y] M=Z (true,M++L):=by
  unfold cB;rw[bM (aK (aF rfl (aF rfl aI)) e)];rfl
 show Option.bind (fP [Z (I n),Z (.d d),Y,Y,Y,Y,Y] M) _=_;unfold fP CU SX;rw[t];rfl
def ES{a b:Ub}{ls:T0}{rs:T3}{vs:T0}{M:Sto}(C:Ch n ls rs)(A:n<=9)(F:Wi 4 d)(hd:aJ d=Z [a,b])(ha:jZ a=Z ls)(D:kF b=Z rs)(so:∀c M,M[c]?=Z (.lst ((GK ls rs).map lT))->dO [.c c] M=Z (.d (lR vs),M)):∃L,cZ [I n,.d d] M=Z (.v (.d (.tuple (vs.map tR))),M++L):=by
 have G:ChD n d:=⟨a,b,ls,rs,hd,ha,C.ln,D,C.rp⟩;obtain⟨L,e⟩:=BL (n:=n) (M:=M) (by omega) F;rw[kJ G]at e
 have t:cB (gB (aH lY (aA (aB 0) (aA (aB 1) aE)))) [Z (I n),Z (.d d),Y,Y,Y,Y,Y] M=Z (false,M++L):=by
  unfold cB;rw[bM (aK (aF rfl (aF rfl aI)) e)];rfl
 obtain⟨ds,i1,i2⟩:=linksI_iff.mp ha;obtain⟨xs,H,K⟩:=ringsI_iff.mp D;have N:∀l∈ls,l.length<=8:=fun l B=>yK (C.ln.lk l B).up (C.ln.lk l B).io A;have l1:=C.l1;have U:=lC i2;have al:=BJ C A;unfold GK at al;rw[A6]at al
 have s1:bD (aB 1) (qM 2 (bI (hName 2) (bI (hName 3) gW))) [Z (I n),Z (.d d),Y,Y,Y,Y,Y] (M++L)=Z (.nx [Z (I n),Z (.d d),Z (.d a),Z (.d b),Y,Y,Y],M++L):=by
  cases d with
  |list O=>cases hd;rfl
  |tuple O=>cases hd;rfl
  |_=>cases hd
 have P:hG [Z (I n),Z (.d d),Z (.d a),Z (.d b),Y,Y,Y] (M++L)=Z (.c (M++L).length,M++L++[.lst (ls.map lT)]):=by
  unfold hG
  have q:=FF (cap:=[Y]) (f:=aY (aB 2)) (g:=hName 0) (c:=cF) (e:=aH cE (aA (aB 0) aE)) (γ:=[Z (I n),Z (.d d),Z (.d a),Z (.d b),Y,Y,Y]) (M:=M++L) (fA rfl i1) (by rw[A0];omega) (nS (i:=0) (γ0:=[Y]) CD.d (fun x=>.tuple ((aJ x).getD [])) ds fun x u=>by
   obtain⟨l,B,u⟩:=(kX i2).1 x u;have:=rowI_iff.mp u;rw[this];exact aK (aF rfl aI) (aAA u)) (by rw[A0,A0];omega)
  rw[q];have:(ds.map fun x=>PyData.tuple ((aJ x).getD []))=ls.map tR:=jL (fun x l h=>by rw[rowI_iff.mp h];rfl) i2;rw[this,B9];rfl
 obtain⟨g5,g6,M',Q,R,S,T⟩:=ON (n:=I n) (d:=.d d) (b:=.d b) (M0:=M) (c:=(M++L).length) C.ln.fam N i1 i2 (by rw[A6];omega) xs rs ls Y Y (M++L++[.lst (ls.map lT)]) K (fun r E=>⟨C.rp.rg r E,MV C A r E⟩) gE (by have:(rs.flatMap (rnS ls)).length=(rs.flatMap fun r=>runs ls (r.2.map Int.toNat)).length:=rfl;omega) ⟨_,F0 _ _ _⟩;have st:=so _ _ R;have s2:bD hG (hName 4) [Z (I n),Z (.d d),Z (.d a),Z (.d b),Y,Y,Y] (M++L)=Z (.nx (GS (I n) (.d d) (.d a) (.d b) (M++L).length Y Y),M++L++[.lst (ls.map lT)]):=bJ (i:=4) P;refine⟨S,?_⟩;show Option.bind (fP [Z (I n),Z (.d d),Y,Y,Y,Y,Y] M) _=_;unfold fP CU SX;rw[t];show Option.bind (liS _ [Z (I n),Z (.d d),Y,Y,Y,Y,Y] (M++L)) _=_;unfold liS;rw[aV s1,aV s2,aV (cW (fA rfl H) Q),fF (aK (aF (aK (aF rfl aI) st) aI) (show cE [.d (lR vs)] M'=Z (.d (.tuple (vs.map tR)),M')from rfl)),T];rfl
def aIb{ls:T0}(q:ls.length<64)(t:∀l∈ls,l.length<64):Tm 2 (.tuple (ls.map tR)):=tN (by rw[A0];exact q) fun x u=>by
 obtain⟨l,h,rfl⟩:=List.mem_map.mp u;exact aAY (t l h)
def oV{x y:Ub}(t:Tm m x)(u:Tm m y):Tm (m+1) (.tuple [x,y]):=tN (show 2<64 by decide) fun z q=>by
 simp only[List.mem_cons,List.not_mem_nil,or_false]at q;rcases q with rfl|rfl
 .exact t
 .exact u
abbrev lkD(ls:T0):Ub:=.tuple (ls.map tR)
abbrev rkD(rs:T3):Ub:=.tuple (rs.map rgD)
def AH(ls:T0):jZ (lkD ls)=Z ls:=by
 refine linksI_iff.mpr ⟨ls.map tR,rfl,?_⟩;rw[B9];exact Z2 fun l _=>rowI_iff.mpr rfl
def AG(rs:T3):kF (rkD rs)=Z rs:=by
 refine ringsI_iff.mpr ⟨rs.map rgD,rfl,?_⟩;rw[B9];exact Z2 fun r _=>ringI_iff.mpr ⟨tR r.2,rfl,rowI_iff.mpr rfl⟩
structure Tms(ls:T0)(rs:T3):Prop where
 a:Tm 2 (lkD ls)
 b:Tm 3 (rkD rs)
def Ch.tms(h:Ch n ls rs)(hn:n<=9):Tms ls rs:=by
 have l1:=h.l1;have l2:=h.l2;have t:∀l∈ls,l.length<=8:=fun l q=>yK (h.ln.lk l q).up (h.ln.lk l q).io hn;refine⟨aIb (by omega) fun l q=>by have:=t l q;omega,tN (by rw[A0];omega) fun x u=>?_⟩;obtain⟨r,A,rfl⟩:=List.mem_map.mp u;refine oV (aGk 1 _) (aAY ?_);have g:=h.rp.rg r A;have:=(eL r.2).length_eq;rw[g.so,A0]at this;have:=GJ ls r.1.toNat;omega
abbrev GT(x:Ub)(ls:T0)(rs:T3)(c:Nat)(g4:Th)(os:T9)(g6 g7 g8 g9:Th):Ga:=[Z (.d x),Z (.d (lkD ls)),Z (.d (rkD rs)),Z (.c c),g4,Z (.d (tR os)),g6,g7,g8,g9]
def aHN{ls:T0}(h:j<ls.length):ixF (.d (lkD ls)) (I j) M=Z (.d (tR (la ls j)),M):=iB (ds:=ls.map tR) rfl (aDL h)
def JN{x:Ub}{ls:T0}{c:Nat}{g4 g6 g7:Th}{os:T9}{M:Sto}:∀(t:T9)(acc:T9)(g9:Th),(∀j∈t,0<=j/\j<(ls.length:Int))->acc.length+(cat ls (t.map Int.toNat)).length<=900->
 ∃u,hV (hName 9) nD (t.map fun j=>I j) (GT x ls rs c g4 os g6 g7 (Z (.d (.list (acc.map .int)))) g9) M=Z (.nx (GT x ls rs c g4 os g6 g7 (Z (.d (.list ((acc++cat ls (t.map Int.toNat)).map .int)))) u),M)
 |[]=>fun acc g9 _ _=>⟨g9,by rw[show cat ls (([]:T9).map Int.toNat)=[]from rfl,D8];rfl⟩
 |j::t=>fun acc g9 h B=>by
  have A:=h j A9;obtain⟨q,rfl⟩:∃q:Nat,j=(q:Int):=⟨j.toNat,by omega⟩;have C:q<ls.length:=by omega
  rw[B6,vB,A6,E3]at B
  have b:nD (GT x ls rs c g4 os g6 g7 (Z (.d (.list (acc.map .int)))) (Z (I q))) M=Z (.nx (GT x ls rs c g4 os g6 g7 (Z (.d (.list ((acc++la ls q).map .int)))) (Z (I q))),M):=by
   refine bJ (i:=8) (aX rfl (aK (aF (aX rfl rfl (aHN C)) aI) (yQ (ds:=(la ls q).map .int) rfl)) ?_);rw[add_list (by rw[A0,A0];omega),F7]
  obtain⟨D,e⟩:=JN t (acc++la ls q) (Z (I q)) (x:=x) (ls:=ls) (rs:=rs) (c:=c) (g4:=g4) (g6:=g6) (g7:=g7) (os:=os) (M:=M) (fun j A=>h j (B0 _ A)) (by rw[A6];omega);refine⟨D,?_⟩;rw[B6,dP (show hName 9 (I q) (GT x ls rs c g4 os g6 g7 (Z (.d (.list (acc.map .int)))) g9) M=Z (GT x ls rs c g4 os g6 g7 (Z (.d (.list (acc.map .int)))) (Z (I q)),M)from rfl) b,e,B6,vB,E3,F0]
abbrev one(ls:T0)(on:Tg)(f i:Nat):T0:=([(f,f+2+i)].filter (gud on.length)).map fun p=>run ls on p.1 p.2
def YN{x:Ub}{ls:T0}{f:Nat}{g4 g8 g9:Th}{os:T9}{acc:T0}(G:∀j∈os,0<=j/\j<(ls.length:Int))(S:os.length<=8)(H:(cat ls (os.map Int.toNat)).length<64)(hi:f+1+i<os.length)(A:M[c]?=Z (.lst (acc.map lT)))(ha:acc.length<800)(K:M0.length<=c)(F:∃L,M=M0++L):
 ∃C u M',jP (GT x ls rs c g4 os (Z (I f)) (Z (I ((f:Int)+1+i))) g8 g9) M=Z (.nx (GT x ls rs c g4 os (Z (I f)) (Z (I ((f:Int)+1+i))) C u),M')/\M'[c]?=Z (.lst ((acc++one ls (os.map Int.toNat) f i).map lT))/\∃L,M'=M0++L:=by
 have D:=(List.getElem?_eq_some_iff.mp A).1;have ln:∀M,bN [.d (tR os)] M=Z (I os.length,M):=fun M=>pH
 have t:gOr (gB (fOp gtI (aB 6) (fC (.int 0)))) (gB (fOp ltI (fOp eF (aB 7) (fC (.int 1))) (aH bN (aA (aB 5) aE)))) (GT x ls rs c g4 os (Z (I f)) (Z (I ((f:Int)+1+i))) g8 g9) M=Z (gud (os.map Int.toNat).length (f,f+2+i),M):=by
  have B:gB (fOp gtI (aB 6) (fC (.int 0))) (GT x ls rs c g4 os (Z (I f)) (Z (I ((f:Int)+1+i))) g8 g9) M=Z (decide ((0:Int)<f),M):=bM (aX rfl rfl OW);have N:gB (fOp ltI (fOp eF (aB 7) (fC (.int 1))) (aH bN (aA (aB 5) aE))) (GT x ls rs c g4 os (Z (I f)) (Z (I ((f:Int)+1+i))) g8 g9) M=Z (decide ((f:Int)+1+i+1<os.length),M):=bM (aX (aX rfl rfl rfl) (aK (aF rfl aI) (ln M)) rfl);unfold gud;rw[A0];by_cases q:(0:Int)<f
  .rw[C7 q]at B;rw[CN B,C7 (by dsimp only;omega)]
  .rw[E4 q]at B;rw[sP B,N];exact C9 (fun b=>Z (b,M)) (decide_eq_decide.mpr (by dsimp only;omega))
 unfold jP;cases q:gud (os.map Int.toNat).length (f,f+2+i)with
 |false=>
  rw[q]at t;refine⟨g8,g9,M,(fR t).trans rfl,?_,F⟩;unfold one;rw[U9 (by rw[q];decide),A0p,List.map_nil,D8];exact A
 |true=>
  rw[q]at t
  have O:fU (os.map PyData.int) (Z (f:Int)) (Z ((f:Int)+1+i+1))=(((os.drop f).take (f+2+i-f)).map .int):=by
   rw[show(f:Int)+1+i+1=((f+2+i:Nat):Int)by omega,ER _ _ _ (by rw[A0];omega) (by rw[A0];omega),A0o,List.map_drop]
  have sl:fSl (aB 5) (bY (aB 6)) (bY (fOp eF (aB 7) (fC (.int 1)))) (GT x ls rs c g4 os (Z (I f)) (Z (I ((f:Int)+1+i))) (Z (.d (.list []))) g9) M=Z (.d (.tuple (((os.drop f).take (f+2+i-f)).map .int)),M):=by
   refine uE (x:=.d (tR os)) (p:=Z (f:Int)) (q:=Z ((f:Int)+1+i+1)) rfl rfl rfl ?_;rw[sl_tup,O]
  have em:((os.map Int.toNat).drop f).take (f+2+i-f)=((os.drop f).take (f+2+i-f)).map Int.toNat:=by rw[A0o,List.map_drop]
  have cs:=QE ls (os.map Int.toNat) f (f+2+i);rw[em]at cs;obtain⟨u,E⟩:=JN (x:=x) (ls:=ls) (rs:=rs) (c:=c) (g4:=g4) (g6:=Z (I f)) (g7:=Z (I ((f:Int)+1+i))) (os:=os) (M:=M) ((os.drop f).take (f+2+i-f)) [] g9 (fun j P=>G j (List.mem_of_mem_drop (A1f P))) (by rw[A0q];omega);rw[List.nil_append]at E;have Q:(((os.drop f).take (f+2+i-f)).map PyData.int).map CD.d=((os.drop f).take (f+2+i-f)).map fun j=>I j:=by rw[B9];rfl
  rw[<- Q]at E;have R:=cW (fA sl rfl) E;refine⟨Z (.d (.list ((cat ls (((os.drop f).take (f+2+i-f)).map Int.toNat)).map .int))),u,M.set c (.lst (acc.map lT++[lT (dW (cat ls (((os.drop f).take (f+2+i-f)).map Int.toNat)))])),(iP t).trans ?_,?_,RA F K⟩
  .rw[aV (show bD (hX aE) (hName 8) (GT x ls rs c g4 os (Z (I f)) (Z (I ((f:Int)+1+i))) g8 g9) M=Z (.nx (GT x ls rs c g4 os (Z (I f)) (Z (I ((f:Int)+1+i))) (Z (.d (.list []))) g9),M)from bJ (i:=8) aBr),aV R];exact uQ (x:=.d .none) (jJ (x:=.c c) rfl (IY A) (aF (aK (aF (aK (aF rfl aI) (uK rfl (by omega))) aI) rfl) aI) (wR A (by rw[A0];omega)))
  .rw[E2 D];unfold one;rw[Y0 q,A0p,F7,List.map_singleton];show _=Z (Cell.lst (acc.map lT++[lT (run ls (os.map Int.toNat) f (f+2+i))]));unfold run;rw[em]
def rF(ls:T0)(t:Tg)(f q:Nat):T0:=(((List.range q).map fun i=>(f,f+2+i)).filter (gud t.length)).map fun p=>run ls t p.1 p.2
def aDw(ls:T0)(t:Tg)(f q:Nat):rF ls t f (q+1)=rF ls t f q++one ls t f q:=by
 unfold rF one;rw[List.range_succ,F7,List.filter_append,F7];rfl
def aAn(ls:T0)(t:Tg)(f q:Nat):(rF ls t f q).length<=q:=by
 unfold rF;rw[A0];have:=O6 (gud t.length) ((List.range q).map fun i=>(f,f+2+i));rw[A0,E8]at this;exact this
def UA(ls:T0)(q:Tg):runs ls q=(List.range q.length).flatMap fun f=>rF ls q f (q.length-(f+1)):=by
 unfold runs prs rF;rw[List.filter_flatMap,List.map_flatMap]
def aBz{x:Ub}{ls:T0}{f:Nat}{g4 g7 g8 g9:Th}{os:T9}{acc:T0}(F:∀j∈os,0<=j/\j<(ls.length:Int))(G:os.length<=8)(C:(cat ls (os.map Int.toNat)).length<64)(T:f<os.length)(H:M[c]?=Z (.lst (acc.map lT)))(ha:acc.length<700)(K:M0.length<=c)(N:∃L,M=M0++L):
 ∃B u A M',nG (GT x ls rs c g4 os (Z (I f)) g7 g8 g9) M=Z (.nx (GT x ls rs c g4 os (Z (I f)) B u A),M')/\M'[c]?=Z (.lst ((acc++rF ls (os.map Int.toNat) f (os.length-(f+1))).map lT))/\∃L,M'=M0++L:=by
 have O:aA (fOp eF (aB 6) (fC (.int 1))) (aA (aH bN (aA (aB 5) aE)) aE) (GT x ls rs c g4 os (Z (I f)) g7 g8 g9) M=Z ([I ((f:Int)+1),I (os.length:Int)],M):=aF (aX rfl rfl rfl) (aF (aK (aF rfl aI) pH) aI);have rg:=PK O (mP (by omega) (by omega)) (mP (by omega) (by omega))
 have e:iE ((f:Int)+1) ((os.length:Int)-((f:Int)+1)).toNat=(List.range' 0 (os.length-(f+1))).map fun i:Nat=>I ((f:Int)+1+i):=by
  unfold iE;rw[show((os.length:Int)-((f:Int)+1)).toNat=os.length-(f+1)by omega,A1e]
 rw[e]at rg
 obtain⟨P,M',Q,⟨B,u,A,rfl⟩,D,E⟩:=yJ (g:=hName 7) (b:=jP) (f:=fun i:Nat=>I ((f:Int)+1+i)) (n:=os.length-(f+1)) (Inv:=fun q γ M=>(∃g7 g8 g9,γ=GT x ls rs c g4 os (Z (I f)) g7 g8 g9)/\M[c]?=Z (.lst ((acc++rF ls (os.map Int.toNat) f q).map lT))/\∃L,M=M0++L) (by
  rintro q U γ M ⟨⟨g7,g8,g9,rfl⟩,D,E⟩;have:=aAn ls (os.map Int.toNat) f q;obtain⟨u,A,M',t,R,S⟩:=YN (x:=x) (rs:=rs) (i:=q) (g4:=g4) (g8:=g8) (g9:=g9) (f:=f) F G C (by omega) D (by rw[A6];omega) K E;exact⟨_,_,_,_,rfl,t,⟨_,_,_,rfl⟩,by rw[R,aDw,F0],S⟩) (os.length-(f+1)) 0 (GT x ls rs c g4 os (Z (I f)) g7 g8 g9) M (by omega) ⟨⟨_,_,_,rfl⟩,by rw[H];show _=Z (Cell.lst ((acc++[]).map lT));rw[D8],N⟩
 exact⟨B,u,A,M',cW rg Q,D,E⟩
def WU{t u:Type}{g:t->Tx u}:∀l:Tx t,(∀f∈l,(g f).length<=8)->(l.flatMap g).length<=8*l.length
 |[]=>fun _=>E9 _
 |f::l=>fun h=>by
  have a:=h f A9;have b:=WU l fun q A=>h q (B0 _ A);rw[O8,A6,L7];omega
def TC{x:Ub}{ls:T0}{g4 g6 g7 g8 g9:Th}{os:T9}{acc:T0}(G:∀j∈os,0<=j/\j<(ls.length:Int))(H:os.length<=8)(D:(cat ls (os.map Int.toNat)).length<64)(K:M[c]?=Z (.lst (acc.map lT)))(ha:acc.length<600)(N:M0.length<=c)(O:∃L,M=M0++L):
 ∃C u A B M',nA (GT x ls rs c g4 os g6 g7 g8 g9) M=Z (.nx (GT x ls rs c g4 os C u A B),M')/\M'[c]?=Z (.lst ((acc++runs ls (os.map Int.toNat)).map lT))/\∃L,M'=M0++L:=by
 have rg:fS (aA (aH bN (aA (aB 5) aE)) aE) (GT x ls rs c g4 os g6 g7 g8 g9) M=Z ((List.range os.length).map (fun j:Nat=>I j),M):=FT (aF (aK (aF rfl aI) pH) aI) (by omega);rw[A1e]at rg
 obtain⟨P,M',Q,⟨C,u,A,B,rfl⟩,E,F⟩:=yJ (g:=hName 6) (b:=nG) (f:=fun i:Nat=>I (i:Int)) (n:=os.length) (Inv:=fun q γ M=>(∃g6 g7 g8 g9,γ=GT x ls rs c g4 os g6 g7 g8 g9)/\M[c]?=Z (.lst ((acc++(List.range q).flatMap fun f=>rF ls (os.map Int.toNat) f (os.length-(f+1))).map lT))/\∃L,M=M0++L) (by
  rintro q R γ M ⟨⟨g6,g7,g8,g9,rfl⟩,E,F⟩;have:=WU (g:=fun f=>rF ls (os.map Int.toNat) f (os.length-(f+1))) (List.range q) fun f _=>by have:=aAn ls (os.map Int.toNat) f (os.length-(f+1));omega
  rw[E8]at this;obtain⟨u,A,B,M',t,S,T⟩:=aBz (x:=x) (rs:=rs) (f:=q) (g4:=g4) (g7:=g7) (g8:=g8) (g9:=g9) G H D R E (by rw[A6];omega) N F;refine⟨_,_,_,_,rfl,t,⟨_,_,_,_,rfl⟩,?_,T⟩;rw[S,List.range_succ,List.flatMap_append,List.flatMap_singleton,F0]) os.length 0 (GT x ls rs c g4 os g6 g7 g8 g9) M (by omega) ⟨⟨_,_,_,_,rfl⟩,by rw[K];show _=Z (Cell.lst ((acc++[]).map lT));rw[D8],O⟩
 refine⟨C,u,A,B,M',cW rg Q,?_,F⟩;rw[E,UA,A0]
abbrev GU(x:Ub)(ls:T0)(rs:T3)(c:Nat)(g4 g5 g6 g7 g8 g9:Th):Ga:=[Z (.d x),Z (.d (lkD ls)),Z (.d (rkD rs)),Z (.c c),g4,g5,g6,g7,g8,g9]
def CV{x:Ub}{c:Nat}{M0:Sto}(F:Fam ls)(N:∀l∈ls,l.length<=8)(O:M0.length<=c):∀(D:T3)(acc:T0)(g4 g5 g6 g7 g8 g9:Th)(M:Sto),(∀r∈D,RgP ls r.1 r.2/\r.2.length<=8)->M[c]?=Z (.lst (acc.map lT))->acc.length+(D.flatMap (rnS ls)).length<600->(∃L,M=M0++L)->
 ∃E G u A B C M',hV (kE 2 (bI (hName 4) (bI (hName 5) gW))) nA (D.map fun r=>.d (rgD r)) (GU x ls rs c g4 g5 g6 g7 g8 g9) M=Z (.nx (GU x ls rs c E G u A B C),M')/\M'[c]?=Z (.lst ((acc++D.flatMap (rnS ls)).map lT))/\∃L,M'=M0++L
 |[]=>fun acc g4 g5 g6 g7 g8 g9 M _ H _ K=>⟨g4,g5,g6,g7,g8,g9,M,rfl,by rw[List.flatMap_nil,D8];exact H,K⟩
 |r::D=>fun acc g4 g5 g6 g7 g8 g9 M P H S K=>by
  rw[O8,A6]at S;obtain⟨R,T⟩:=P r A9;have Q:r.1.toNat<ls.length:=by have:=R.k0;omega
  have l8:=zW F Q R.so;have l9:=N _ (bS Q);obtain⟨u,A,B,C,M1,t,U,V⟩:=TC (x:=x) (rs:=rs) (g4:=Z (I r.1)) (g6:=g6) (g7:=g7) (g8:=g8) (g9:=g9) R.o T (by omega) H (by omega) O K;obtain⟨W,X,a6,a7,a8,a9,M',l,c2,m2⟩:=CV F N O D (acc++rnS ls r) (Z (I r.1)) (Z (.d (tR r.2))) u A B C M1 (fun q hq=>P q (B0 _ hq)) U (by rw[A6];omega) V;refine⟨W,X,a6,a7,a8,a9,M',?_,by rw[c2,O8,F0],m2⟩;rw[B6,dP (show kE 2 (bI (hName 4) (bI (hName 5) gW)) (.d (rgD r)) (GU x ls rs c g4 g5 g6 g7 g8 g9) M=Z (GT x ls rs c (Z (I r.1)) r.2 g6 g7 g8 g9,M)from rfl) t];exact l
def aFe{ls:T0}{rs:T3}{vs:T0}{M:Sto}(C:Ch n ls rs)(t:n<=9)(so:∀c M,M[c]?=Z (.lst ((GK ls rs).map lT))->dO [.c c] M=Z (.d (lR vs),M)):∃L,mD [.d (chD ls rs)] M=Z (.d (.tuple (vs.map tR)),M++L):=by
 have B:∀l∈ls,l.length<=8:=fun l u=>yK (C.ln.lk l u).up (C.ln.lk l u).io t;have l1:=C.l1;have al:=BJ C t;unfold GK at al;rw[A6]at al
 have D:jH [Z (.d (chD ls rs)),Z (.d (lkD ls)),Z (.d (rkD rs)),Y,Y,Y,Y,Y,Y,Y] M=Z (.c M.length,M++[.lst (ls.map lT)]):=by
  unfold jH
  have it:aY (aB 1) [Z (.d (chD ls rs)),Z (.d (lkD ls)),Z (.d (rkD rs)),Y,Y,Y,Y,Y,Y,Y] M=Z (ls.map lT,M):=by
   rw[fA (f:=aB 1) (d:=lkD ls) rfl rfl,B9];rfl
  have q:=FF (cap:=[Y]) (g:=hName 0) (c:=cF) (e:=aH cE (aA (aB 0) aE)) it (by rw[A0];omega) (nS (i:=0) (γ0:=[Y]) lT tR ls fun l _=>aK (aF rfl aI) rfl) (by rw[A0,A0];omega);rw[q,B9];rfl
 obtain⟨g4,g5,g6,g7,g8,g9,M',E,F,G,H⟩:=CV (x:=chD ls rs) (rs:=rs) (M0:=M) (c:=M.length) C.ln.fam B (B4 _) rs ls Y Y Y Y Y Y (M++[.lst (ls.map lT)]) (fun r A=>⟨C.rp.rg r A,MV C t r A⟩) gE (by have:(rs.flatMap (rnS ls)).length=(rs.flatMap fun r=>runs ls (r.2.map Int.toNat)).length:=rfl;omega) ⟨_,rfl⟩;have st:=so _ _ F;refine⟨G,eG rfl ?_⟩;have s2:bD jH (hName 3) [Z (.d (chD ls rs)),Z (.d (lkD ls)),Z (.d (rkD rs)),Y,Y,Y,Y,Y,Y,Y] M=Z (.nx (GU (chD ls rs) ls rs M.length Y Y Y Y Y Y),M++[.lst (ls.map lT)]):=bJ (i:=3) D
 have it:aY (aB 2) (GU (chD ls rs) ls rs M.length Y Y Y Y Y Y) (M++[.lst (ls.map lT)])=Z (rs.map (fun r=>.d (rgD r)),M++[.lst (ls.map lT)]):=by
  rw[fA (f:=aB 2) (d:=rkD rs) rfl rfl,B9];rfl
 unfold qF;show aZ _ _ [Z (.d (chD ls rs)),Y,Y,Y,Y,Y,Y,Y,Y,Y] M=_;rw[aV (show bD (aB 0) (kE 2 (bI (hName 1) (bI (hName 2) gW))) [Z (.d (chD ls rs)),Y,Y,Y,Y,Y,Y,Y,Y,Y] M=Z (.nx [Z (.d (chD ls rs)),Z (.d (lkD ls)),Z (.d (rkD rs)),Y,Y,Y,Y,Y,Y,Y],M)from rfl),aV s2,aV (cW it E),fF (aK (aF (aK (aF rfl aI) st) aI) (show cE [.d (lR vs)] M'=Z (.d (.tuple (vs.map tR)),M')from rfl)),H]
def Idt:Nat->Ub->Prop
 |_,.int _=>True
 |m+1,.tuple ds=>∀x∈ds,Idt m x
 |m+1,.list ds=>∀x∈ds,Idt m x
 |_,_=>False
def NU(m:Nat)(i:Int):Idt m (.int i):=by cases m<;>trivial
def Idt.ok:∀{m:Nat}{d:Ub},Idt m d->PyData.canLay0 d=true/\PyData.depth d<=m/\PyData.eqv d d=true:=by
 intro m
 induction m with
 |zero=>intro d h;cases d with
  |int i=>exact⟨rfl,B4 _,by show(i==i)=true;exact A1a i⟩
  |_=>cases h
 |succ m ih=>
  have all:∀ds:T6,(∀x∈ds,Idt m x)->PyData.canLayAll0 ds=true/\PyData.depthAll ds<=m/\PyData.eqvAll ds ds=true:=fun ds=>by
   induction ds with
   |nil=>intro _;exact⟨rfl,E9 _,rfl⟩
   |cons x ds q=>
    intro h;obtain⟨t,D,u⟩:=ih (h x A9);obtain⟨A,E,B⟩:=q fun y C=>h y (B0 _ C);refine⟨?_,?_,?_⟩
    .show(PyData.canLay0 x&&PyData.canLayAll0 ds)=true;rw[t,A];rfl
    .show max (PyData.depth x) (PyData.depthAll ds)<=m;omega
    .show(PyData.eqv x x&&PyData.eqvAll ds ds)=true;rw[u,B];rfl
  intro d h;cases d with
  |int i=>exact⟨rfl,E9 _,by show(i==i)=true;exact A1a i⟩
  |tuple ds=>obtain⟨a,b,c⟩:=all ds h;exact⟨a,Nat.succ_le_succ b,c⟩
  |list ds=>obtain⟨a,b,c⟩:=all ds h;exact⟨a,Nat.succ_le_succ b,c⟩
  |_=>cases h
def Idt.ne(h:Idt m d)(hm:m<=64):eqX true (.d d) (.d d) M=Z (B false,M):=by
 obtain⟨a,b,c⟩:=h.ok
 have s:SeqAt.shaped d=true:=by
  unfold SeqAt.shaped;rw[a,C7 (by omega)];rfl
 have e:eqD true (.d d) (.d d) M=Z (B false,M):=by
  show(if (SeqAt.shaped d&&SeqAt.shaped d)=true then Z (CD.d (.bool (if true=true then !PyData.eqv d d else PyData.eqv d d)),M)else Y)=_;rw[s,c];rfl
 cases d with
 |int i=>exact e
 |tuple _=>exact e
 |list _=>exact e
 |_=>cases m<;>cases h
def OP(l:T9):Idt (m+1) (tR l):=fun x q=>by
 obtain⟨i,_,rfl⟩:=List.mem_map.mp q;exact NU m i
def BE(vs:T0):Idt (m+2) (.tuple (vs.map tR)):=fun x q=>by
 obtain⟨l,_,rfl⟩:=List.mem_map.mp q;exact OP l
def aEK(ls:T0)(rs:T3):Idt 4 (chD ls rs):=fun x q=>by
 simp only[List.mem_cons,List.not_mem_nil,or_false]at q;rcases q with rfl|rfl
 .exact BE ls
 .intro y u;obtain⟨r,_,rfl⟩:=List.mem_map.mp u;intro z t;simp only[List.mem_cons,List.not_mem_nil,or_false]at t;rcases t with rfl|rfl
  .exact NU 1 _
  .exact OP r.2
def Idt.lists:∀{m:Nat}{d:Ub}(k:Nat),Idt m d->Idt m (lsD k d):=by
 intro m d k
 induction k generalizing m d with
 |zero=>intro h;exact h
 |succ k ih=>
  intro h;cases d with
  |tuple ds=>
   cases m with
   |zero=>cases h
   |succ m=>
    intro x q;obtain⟨y,t,rfl⟩:=List.mem_map.mp q;exact ih (h y t)
  |_=>exact h
abbrev vD(vs:T0):Ub:=.tuple (vs.map tR)
abbrev GM(s:CD)(c:Nat)(g2:Th)(n:Int)(ch li du:Ub)(g7 g8 g9 g10 g11 g12 g13 g14:Th):Ga:=[Z s,Z (.c c),g2,Z (I n),Z (.d ch),Z (.d li),Z (.d du),g7,g8,g9,g10,g11,g12,g13,g14]
def ID{h:FX}{f:AF}{M1 M2:Sto}(ha:f γ M=Z (xs,M1))(e:h xs M1=Z (.v y,M2)):oY h f γ M=Z (y,M2):=by
 unfold oY;rw[ha,A2];dsimp only;rw[e];rfl
def DA{s:CD}{c:Nat}{g2 g8 g9 g10 g11 g12 g13 g14:Th}{x:Ub}{vs:T0}(B:vs.length<=61)(h:∃L,cZ [I n,.d x] M=Z (.v (.d (vD vs)),M++L)):
 ∃L,vG (GM s c g2 n ch li (vD vs) (Z (.d x)) g8 g9 g10 g11 g12 g13 g14) M=Z (.nx (GM s c g2 n ch li (vD vs) (Z (.d x)) (Z (.d (vD vs))) g9 g10 g11 g12 g13 g14),M++L):=by
 obtain⟨L,e⟩:=h;refine⟨L,?_⟩;have s1:bD (oY cZ (aA (aB 3) (aA (aB 7) aE))) (hName 8) (GM s c g2 n ch li (vD vs) (Z (.d x)) g8 g9 g10 g11 g12 g13 g14) M=Z (.nx (GM s c g2 n ch li (vD vs) (Z (.d x)) (Z (.d (vD vs))) g9 g10 g11 g12 g13 g14),M++L):=bJ (i:=8) (ID (aF rfl (aF rfl aI)) e)
 have q:yT (GM s c g2 n ch li (vD vs) (Z (.d x)) (Z (.d (vD vs))) g9 g10 g11 g12 g13 g14) (M++L)=Z (.d (.list ((vs.map tR).map fun d=>.bool (tO "tuple" d))),M++L):=by
  unfold yT;exact vT (f:=aB 8) rfl rfl (by rw[A0];omega) fun x _=>rfl
 have al:=all_map' (f:=tO "tuple") (ds:=vs.map tR) (M:=M++L);rw[List.all_eq_true.mpr (by intro y t;obtain⟨l,_,rfl⟩:=List.mem_map.mp t;rfl)]at al;unfold vG;rw[aV s1]
 have u:gOr (cB (gB (wM "tuple" (aB 8)))) (gB (fOp (eqX true) (aB 8) (aB 6))) (GM s c g2 n ch li (vD vs) (Z (.d x)) (Z (.d (vD vs))) g9 g10 g11 g12 g13 g14) (M++L)=Z (false,M++L):=by
  rw[sP (show cB (gB (wM "tuple" (aB 8))) _ (M++L)=Z (false,M++L)from rfl)];exact bM (aX rfl rfl (Idt.ne (m:=2) (BE vs) (by decide)))
 rw[aV ((fR u).trans rfl)]
 have A:cB (gB (aH kT (aA yT aE))) (GM s c g2 n ch li (vD vs) (Z (.d x)) (Z (.d (vD vs))) g9 g10 g11 g12 g13 g14) (M++L)=Z (false,M++L):=by
  unfold cB;rw[bM (aK (aF q aI) al)];rfl
 exact(fR A).trans rfl
def aBE{vs:T0}(nd:vs.Nodup)(q:j<vs.length):la vs j∉vs.take j:=fun h=>by
 obtain⟨i,hi⟩:=List.mem_iff_getElem?.mp h;rw[List.getElem?_take]at hi;split at hi
 .rename_i lt;have:=vZ nd (i:=i) (j:=j) (by omega) q (by rw[la,A8,hi];rfl);omega
 .cases hi
def unlike{ch li:Ub}{vs:T0}(nd:vs.Nodup)(t:vs.length<=61):∃ds:T6,ds.length=vs.length/\yD (GM s c g2 n ch li (vD vs) g7 g8 g9 g10 g11 g12 g13 g14) M=Z (.d (.list ds),M):=by
 refine⟨(List.range vs.length).map fun j=>tR (la vs j),by rw[A0,E8],?_⟩;unfold yD
 have it:sH (aA (aB 6) aE) (GM s c g2 n ch li (vD vs) g7 g8 g9 g10 g11 g12 g13 g14) M=Z ((List.range vs.length).map (fun j:Nat=>.d (.tuple [.int (j:Nat),tR (la vs j)])),M):=by
  rw[<- AU];rfl
 have l:=zQ (g:=kE 2 (bI (hName 1) (bI (hName 2) gW))) (c:=gB (fOp (inD true) (aB 2) (fSl (aB 0) bT (bY (aB 1))))) (e:=aB 2) (M:=M) (fun j:Nat=>CD.d (.tuple [.int (j:Nat),tR (la vs j)])) (fun _=>true) (fun j=>tR (la vs j)) (Sh:=fun γ=>∃a b,γ=[Z (.d (vD vs)),a,b]) (List.range vs.length) [Z (.d (vD vs)),Y,Y] ⟨Y,Y,rfl⟩ (by
  rintro j q γ ⟨a,b,rfl⟩;have q:=List.mem_range.mp q;refine⟨_,⟨Z (I j),Z (.d (tR (la vs j))),rfl⟩,rfl,bM (aX rfl (uE rfl rfl rfl (sl_tup (ds:=vs.map tR) (lo:=Y) (hi:=Z (j:Int)))) ?_),fun _=>rfl⟩;rw[qA _ _ (by rw[A0];omega),<- A0o];show(if (SeqAt.shaped (tR (la vs j))&&((vs.take j).map tR).all SeqAt.shaped)=true then Z (CD.d (.bool (!((vs.take j).map tR).any fun d=>PyData.eqv d (tR (la vs j)))),M)else Y)=_;rw[oZ,aAS,NH,E4 (aBE nd q)];rfl)
 rw[List.filter_eq_self.mpr (fun _ _=>rfl)]at l;exact iY it (by rw[A0,E8];omega) l (by rw[A0,E8];omega)
def tmB:Nat->Ub->Bool
 |0,d=>(aJ d).isNone
 |m+1,d=>match aJ d with
  |none=>true
  |some ds=>decide (ds.length<64)&&ds.all (tmB m)
def lQ:∀{m:Nat}{d:Ub},tmB m d=true->Tm m d
 |0,d=>fun h=>Option.isNone_iff_eq_none.mp h
 |m+1,d=>fun h=>fun ds hd=>by
  unfold tmB at h;rw[hd]at h;rw[B8,E5,Z3]at h;exact⟨h.1,fun x q=>lQ (h.2 x q)⟩
def aBV(h:γ[v]?=Z (Z (.d (.tuple ds)))):RT (aB v) (bY (fUn rX (fC (.int 1)))) γ M=Z (.d (.tuple ds.reverse),M):=by
 unfold RT;rw[iW h];rfl
def twice{T:T6}(h:γ[i]?=Z (Z (.d (.tuple T))))(q:T.length<=33):fOp eF (aB i) (fSl (aB i) bT (bY (fC (.int 1)))) γ M=Z (.d (.tuple (T++T.take 1)),M):=by
 refine aX (iW h) (uE (iW h) rfl rfl (sl_tup (lo:=Y) (hi:=Z 1))) ?_;rw[aBR (by have:=aCc T Y (Z 1);omega)];cases T with
 |nil=>rfl
 |cons x T=>rw[show fU (x::T) Y (Z 1)=(x::T).take 1 from qA (x::T) 1 (Nat.le_add_left _ _)]
def ZR{T:T6}(q:T.length<=33)(h:∀x∈T,Tm m x):Tm (m+1) (.tuple (T++T.take 1)):=tN (by rw[A6,Y3];omega) fun x hx=>by
 rcases List.mem_append.mp hx with hx|hx
 .exact h x hx
 .exact h x (A1f hx)
def BC{M1:Sto}{f:AF}(h:f γ M=Z (ds.map .d,M1))(q:ds.length<=900):hX f γ M=Z (.d (.list ds),M1):=by
 unfold hX;rw[h,A2];dsimp only;rw[eA,A2,A4 (sz (by omega))]
structure aIO(M:Sto)(v:CD):Prop where
 at_:∀z:Int,∃d,ixF v (I (z % 13)) M=Z (.d d,M)/\Tm 5 d
noncomputable abbrev sB1:SF:=bD (dS (aA (cT (aA (fOp eF (aB 10) (fSl (aB 10) bT (bY (fC (.int 1))))) (aA (aB 11) aE))) (aA (cT (aA (RT (aB 10) (bY (fUn rX (fC (.int 1))))) (aA (aB 11) aE))) (aA (cT (aA (aB 10) (aA (fOp eF (aB 11) (fSl (aB 11) bT (bY (fC (.int 1))))) aE))) aE)))) (hName 12)
noncomputable abbrev sB2:SF:=eZ (bL "list" bW (aB 12) (aA (cT (aA (aB 10) (aA FQ aE))) aE))
noncomputable abbrev sB3:SF:=bD (fOp eF (aB 12) (hX (aA (cT (aA (aB 10) aE)) (aA (fC .none) (aA (fC (.int 0)) (aA (fC (.str "")) (aA FE (aA (cT (aA (aB 10) (aA (fC .none) aE))) aE)))))))) (hName 12)
noncomputable abbrev sB4:SF:=bD (fOp eF (aB 12) (hX (aA HE (aA (cT (aA (cT (aA (cT (aA (aB 3) aE)) aE)) (aA (cT aE) aE))) (aA FG aE))))) (hName 12)
def aCw{as bs:T6}(h:M[i]?=Z (.lst (as.map .d)))(q:as.length+bs.length<=900):eF (.c i) (.d (.list bs)) M=Z (.d (.list (as++bs)),M):=by
 have e:aBf (.c i) (.d (.list bs)) M=Z (.d (.list (as++bs)),M):=by
  unfold aBf rA;dsimp only;rw[h];dsimp only;rw[A2,A2,<- F7,eA,A2,A4 (sz (by rw[A6];omega))]
 show(match (match aBf (.c i) (.d (.list bs)) M with|some r=>Z r|none=>_)with|r=>r)=_;rw[e]
def aCS{s:CD}{c:Nat}{g2 g7 g8 g9 g12 g13 g14:Th}{M:Sto}{r:SF}(G:n<=9)(C:Ch n ls rs):
 ∃v L,aZ sB1 (aZ sB2 (aZ sB3 (aZ sB4 r))) (GM s c g2 n ch li du g7 g8 g9 (Z (.d (lkD ls))) (Z (.d (rkD rs))) g12 g13 g14) M=r (GM s c g2 n ch li du g7 g8 g9 (Z (.d (lkD ls))) (Z (.d (rkD rs))) (Z (.d v)) g13 g14) (M++L)/\∀M,aIO M (.d v):=by
 have T:=C.tms G;have l1:(ls.map tR).length<=33:=by rw[A0];exact C.l1
 have l2:(rs.map rgD).length<=33:=by rw[A0];exact C.l2
 have D:∀x∈ls.map tR,Tm 1 x:=(T.a _ rfl).2;have tb:∀x∈rs.map rgD,Tm 2 x:=(T.b _ rfl).2;let q:Ub:=.tuple [.tuple (ls.map tR++(ls.map tR).take 1),rkD rs];let t:Ub:=.tuple [.tuple (ls.map tR).reverse,rkD rs];let u:Ub:=.tuple [lkD ls,.tuple (rs.map rgD++(rs.map rgD).take 1)];let A:Ub:=.tuple [lkD ls,.tuple [.tuple [.int 0,.tuple [.int 0,.int 1,.int 2]]]];let bs:T6:=[.tuple [lkD ls],.none,.int 0,.str "",.dict [],.tuple [lkD ls,.none]];let cs:T6:=[.tuple [.tuple [.tuple [.int 0,.int 1]],.tuple []],.tuple [.tuple [.tuple [.int n]],.tuple []],.tuple [.tuple [.tuple []],.tuple []]]
 have H:sB1 (GM s c g2 n ch li du g7 g8 g9 (Z (.d (lkD ls))) (Z (.d (rkD rs))) g12 g13 g14) M=Z (.nx (GM s c g2 n ch li du g7 g8 g9 (Z (.d (lkD ls))) (Z (.d (rkD rs))) (Z (.c M.length)) g13 g14),M++[.lst ([q,t,u].map .d)]):=
  bJ (i:=12) (tL (aF (MB (twice rfl l1) rfl) (aF (MB (aBV rfl) rfl) (aF (MB rfl (twice rfl l2)) aI))) (show 3<=900 by decide))
 have I:sB2 (GM s c g2 n ch li du g7 g8 g9 (Z (.d (lkD ls))) (Z (.d (rkD rs))) (Z (.c M.length)) g13 g14) (M++[.lst ([q,t,u].map .d)])=Z (.nx (GM s c g2 n ch li du g7 g8 g9 (Z (.d (lkD ls))) (Z (.d (rkD rs))) (Z (.c M.length)) g13 g14),M++[.lst ([q,t,u,A].map .d)]):=by
  have E:=wR (M:=M++[.lst ([q,t,u].map .d)]) (c:=M.length) (xs:=[q,t,u].map .d) (y:=.d A) gE (show 3<900 by decide);rw[ET]at E;exact uQ (x:=.d .none) (jJ (x:=.c M.length) rfl (IY gE) (aF (MB rfl (VC _ _)) aI) E)
 have K:sB3 (GM s c g2 n ch li du g7 g8 g9 (Z (.d (lkD ls))) (Z (.d (rkD rs))) (Z (.c M.length)) g13 g14) (M++[.lst ([q,t,u,A].map .d)])=Z (.nx (GM s c g2 n ch li du g7 g8 g9 (Z (.d (lkD ls))) (Z (.d (rkD rs))) (Z (.d (.list ([q,t,u,A]++bs)))) g13 g14),M++[.lst ([q,t,u,A].map .d)]):=
  bJ (i:=12) (aX rfl (BC (ds:=bs) (aF (aHm rfl) (aF rfl (aF rfl (aF rfl (aF rfl (aF (MB rfl rfl) aI)))))) (show 6<=900 by decide)) (aCw gE (show 4+6<=900 by decide)))
 have N:sB4 (GM s c g2 n ch li du g7 g8 g9 (Z (.d (lkD ls))) (Z (.d (rkD rs))) (Z (.d (.list ([q,t,u,A]++bs)))) g13 g14) (M++[.lst ([q,t,u,A].map .d)])=Z (.nx (GM s c g2 n ch li du g7 g8 g9 (Z (.d (lkD ls))) (Z (.d (rkD rs))) (Z (.d (.list (([q,t,u,A]++bs)++cs)))) g13 g14),M++[.lst ([q,t,u,A].map .d)]):=
  bJ (i:=12) (aX rfl (BC (ds:=cs) (aF (aAb _ _) (aF (MB (aHm (aHm rfl)) rfl) (aF (UW _ _) aI))) (show 3<=900 by decide)) (add_list (show 10+3<=1000 by decide)))
 refine⟨_,_,by rw[aV H,aV I,aV K,aV N],fun M=>⟨fun z=>?_⟩⟩;obtain⟨d,e,hm⟩:=OY (ds:=([q,t,u,A]++bs)++cs) (k:=z) (m:=13) (by decide) rfl;refine⟨d,iB rfl e,?_⟩;have la:Tm 2 (lkD ls):=T.a;have F:Tm 3 (rkD rs):=T.b;simp only[bs,cs,List.cons_append,List.nil_append,List.mem_cons,List.not_mem_nil,or_false]at hm;rcases hm with rfl|rfl|rfl|rfl|rfl|rfl|rfl|rfl|rfl|rfl|rfl|rfl|rfl
 .exact(oV (Tm.up (ZR l1 D)) F).up
 .exact(oV (Tm.up (tN (by rw[Y1];omega) fun x B=>D x (List.mem_reverse.mp B):Tm 2 _)) F).up
 .exact(oV la.up (ZR l2 tb)).up
 .exact(oV la.up (lQ rfl:Tm 3 _)).up
 .exact(tN (ds:=[lkD ls]) (show 1<64 by decide) fun x B=>by rw[List.mem_singleton.mp B];exact la:Tm 3 _).upTo (by decide)
 .exact lQ rfl
 .exact lQ rfl
 .exact lQ rfl
 .exact lQ rfl
 .exact(oV la (lQ rfl:Tm 2 .none)).upTo (by decide)
 .exact lQ rfl
 .exact lQ rfl
 .exact lQ rfl
def RY(hn:n<=40)(q:Wi 4 d)(h:¬ChD n d):∃L,iK [I n,.d d] M=Z (B true,M++L):=by
 obtain⟨L,e⟩:=aEO (M:=M) hn q h;refine⟨L++[.exc false "NoChart" []],eG rfl ?_⟩
 have b:gI [Z (I n),Z (.d d),Y] M=Z (.xc [Z (I n),Z (.d d),Y] ⟨"NoChart",[]⟩,M++L):=by
  have a:liA (aA (aB 0) (aA (aB 1) aE)) [Z (I n),Z (.d d),Y] M=Z (.inl [I n,.d d],M):=rfl;unfold gI BA KN aAf;rw[a,A2];dsimp only;rw[e];rfl
 have u:(M++L++[Cell.exc false "NoChart" []])[(M++L).length]?=Z (.exc false "NoChart" []):=gE
 have A:NL [⟨[("NoChart",true)],(Z 2),gF⟩] [Z (I n),Z (.d d),Y] ⟨"NoChart",[]⟩ (M++L)=Z (.rt (B true),M++L++[.exc false "NoChart" []]):=by
  have l1:List.lookup ("NoChart":Str) [(("NoChart":Str),true)]=Z true:=by decide +kernel
  have l2:List.lookup ("NoChart":Str) jT=Z true:=by decide +kernel
  have C:List.lookup ("NoChart":Str) gS=Z true:=by decide +kernel
  simp![NL,l1,gF,u,l2,C]
 unfold lJ;show aZ (LO _ _) _ [Z (I n),Z (.d d),Y] M=_
 have t:LO gI [⟨[("NoChart",true)],(Z 2),gF⟩] [Z (I n),Z (.d d),Y] M=Z (.rt (B true),M++L++[.exc false "NoChart" []]):=by
  unfold LO;rw[b,A2];exact A
 rw[lU t,F0]
def LF{s:CD}{g2 g7 g8 g9 g10 g11 g13 g14:Th}{v:Ub}{M:Sto}(G:n<=9)(C:∀M,aIO M (.d v))(dk:Dk M c (m+1)):
 ∃t M',vI (GM s c g2 n ch li du g7 g8 g9 g10 g11 (Z (.d v)) g13 g14) M=Z (.nx (GM s c g2 n ch li du g7 g8 g9 g10 g11 (Z (.d v)) g13 t),M')/\Dk M' c m:=by
 obtain⟨z,M1,D,u,_,_⟩:=dk.pop;obtain⟨d,ix,B⟩:=(C M1).at_ z;have E:bL "list" iI (aB 1) aE (GM s c g2 n ch li du g7 g8 g9 g10 g11 (Z (.d v)) g13 g14) M=Z (I z,M1):=pop_at rfl dk.ty D;have s1:bD (fOp ixF (aB 12) (fOp fT (bL "list" iI (aB 1) aE) (fC (.int 13)))) (hName 14) (GM s c g2 n ch li du g7 g8 g9 g10 g11 (Z (.d v)) g13 g14) M=Z (.nx (GM s c g2 n ch li du g7 g8 g9 g10 g11 (Z (.d v)) g13 (Z (.d d))),M1):=bJ (i:=14) (aX rfl (pZ E (by decide)) ix);obtain⟨L,e⟩:=zA (n:=n) (d:=d) (M:=M1) (by omega) (B.wi 4);unfold vI;rw[aV s1]
 have A:cB (gB (aH fL (aA (aB 3) (aA (aB 14) aE)))) (GM s c g2 n ch li du g7 g8 g9 g10 g11 (Z (.d v)) g13 (Z (.d d))) M1=Z (!pd (ChD n d),M1++L):=by
  unfold cB;rw[bM (aK (aF rfl (aF rfl aI)) e)];rfl
 rcases F4 (ChD n d)with q|q
 .rw[kJ q]at A;refine⟨_,_,(fR ?_).trans rfl,u.app (L:=L)⟩;unfold jR;rw[A];rfl
 .rw[fV q]at A;obtain⟨L2,F⟩:=RY (M:=M1++L) (show n<=40 by omega) (B.wi 4) q;refine⟨_,_,(fR (M':=M1++L++L2) ?_).trans rfl,u.app.app⟩;unfold jR;rw[A,A2];show cB (gB (aH iK (aA (aB 3) (aA (aB 14) aE)))) (GM s c g2 n ch li du g7 g8 g9 g10 g11 (Z (.d v)) g13 (Z (.d d))) (M1++L)=_;unfold cB;rw[bM (aK (aF rfl (aF rfl aI)) F)];rfl
def ZF(dk:Dk M c (m+134)):∃W h4 X h6 h7 h8 A E F G B D M2,yG [Z s,Z (.c c),g2,g3,g4,g5,g6,g7,g8,g9,g10,g11,g12,g13,g14] M=Z (.nx [Z s,Z (.c c),g2,W,h4,X,h6,h7,h8,A,E,F,G,B,D],M2)/\Dk M2 c m:=by
 obtain⟨z,M1,p1,H,_,rz⟩:=dk.pop;have po:bL "list" iI (aB 1) aE [Z s,Z (.c c),g2,g3,g4,g5,g6,g7,g8,g9,g10,g11,g12,g13,g14] M=Z (I z,M1):=pop_at rfl dk.ty p1;have a0:=Z8 z (show(9:Int)≠0 by decide);have a1:=Z5 z (show(0:Int)<9 by decide);obtain⟨n,h1,A,s3⟩:∃n:Int,1<=n/\n<=9/\bD (fOp eF (fC (.int 1)) (fOp fT (bL "list" iI (aB 1) aE) (fC (.int 9)))) (hName 3) [Z s,Z (.c c),g2,g3,g4,g5,g6,g7,g8,g9,g10,g11,g12,g13,g14] M=Z (.nx [Z s,Z (.c c),g2,Z (I n),g4,g5,g6,g7,g8,g9,g10,g11,g12,g13,g14],M1):=⟨1+z % 9,by omega,by omega,bJ (i:=3) (aX rfl (pZ po (by decide)) aEb)⟩;obtain⟨ls,rs,M2,ec,K,C⟩:=aCK (m:=m+3) h1 A (by rw[show m+3+130=m+133 by omega];exact H);have T:=C.tms A;have N:Tm 5 (chD ls rs):=(oV T.a.up T.b).up;have al:=BJ C A;obtain⟨vs,pm,so⟩:=CW (PV C) (by omega);have nd:vs.Nodup:=pm.nodup_iff.mpr (aBL C);have O:vs.length<=61:=by rw[pm.length_eq];exact al
 have U:∀M,cG 6 [.d (chD ls rs)] M=Z (.d (lsD 5 (chD ls rs)),M):=fun M=>aDk 5 _ M N;obtain⟨q,e3⟩:=aFe (M:=M2) C A so;have s4:bD (aH kQ (aA (aB 1) (aA (aB 3) aE))) (hName 4) [Z s,Z (.c c),g2,Z (I n),g4,g5,g6,g7,g8,g9,g10,g11,g12,g13,g14] M1=Z (.nx [Z s,Z (.c c),g2,Z (I n),Z (.d (chD ls rs)),g5,g6,g7,g8,g9,g10,g11,g12,g13,g14],M2):=bJ (i:=4) (aK (aF rfl (aF rfl aI)) ec);have s5:bD (aH (cG 6) (aA (aB 4) aE)) (hName 5) [Z s,Z (.c c),g2,Z (I n),Z (.d (chD ls rs)),g5,g6,g7,g8,g9,g10,g11,g12,g13,g14] M2=Z (.nx [Z s,Z (.c c),g2,Z (I n),Z (.d (chD ls rs)),Z (.d (lsD 5 (chD ls rs))),g6,g7,g8,g9,g10,g11,g12,g13,g14],M2):=bJ (i:=5) (aK (aF rfl aI) (U M2));have s6:bD (aH mD (aA (aB 4) aE)) (hName 6) [Z s,Z (.c c),g2,Z (I n),Z (.d (chD ls rs)),Z (.d (lsD 5 (chD ls rs))),g6,g7,g8,g9,g10,g11,g12,g13,g14] M2=Z (.nx (GM s c g2 n (chD ls rs) (lsD 5 (chD ls rs)) (vD vs) g7 g8 g9 g10 g11 g12 g13 g14),M2++q):=bJ (i:=6) (aK (aF rfl aI) e3);obtain⟨a,b,ia,ka,kb⟩:∃a b,aJ (lsD 5 (chD ls rs))=Z [a,b]/\jZ a=Z ls/\kF b=Z rs:=⟨_,_,rfl,by rw[aAu];exact AH ls,by rw[aAp];exact AG rs⟩;obtain⟨t,t4⟩:=DA (s:=s) (c:=c) (g2:=g2) (g8:=g8) (g9:=g9) (g10:=g10) (g11:=g11) (g12:=g12) (g13:=g13) (g14:=g14) (ch:=chD ls rs) (li:=lsD 5 (chD ls rs)) O (ES (M:=M2++q) (d:=chD ls rs) C A (N.wi 4) rfl (AH ls) (AG rs) so);obtain⟨u,t5⟩:=DA (s:=s) (c:=c) (g2:=g2) (g8:=Z (.d (vD vs))) (g9:=g9) (g10:=g10) (g11:=g11) (g12:=g12) (g13:=g13) (g14:=g14) (ch:=chD ls rs) (li:=lsD 5 (chD ls rs)) O (ES (M:=M2++q++t) C A ((aEf 5 N).wi 4) ia ka kb so)
 have s7:gV (aY (hX (aA (aB 4) (aA (aB 5) aE)))) (hName 7) vG (GM s c g2 n (chD ls rs) (lsD 5 (chD ls rs)) (vD vs) g7 g8 g9 g10 g11 g12 g13 g14) (M2++q)=Z (.nx (GM s c g2 n (chD ls rs) (lsD 5 (chD ls rs)) (vD vs) (Z (.d (lsD 5 (chD ls rs)))) (Z (.d (vD vs))) g9 g10 g11 g12 g13 g14),M2++q++t++u):=by
  refine cW (fA (BC (ds:=[chD ls rs,lsD 5 (chD ls rs)]) (aF rfl (aF rfl aI)) (show 2<=900 by decide)) rfl) ?_;show hV (hName 7) vG [.d (chD ls rs),.d (lsD 5 (chD ls rs))] _ _=_;rw[dP (show hName 7 (.d (chD ls rs)) (GM s c g2 n (chD ls rs) (lsD 5 (chD ls rs)) (vD vs) g7 g8 g9 g10 g11 g12 g13 g14) (M2++q)=Z (GM s c g2 n (chD ls rs) (lsD 5 (chD ls rs)) (vD vs) (Z (.d (chD ls rs))) g8 g9 g10 g11 g12 g13 g14,M2++q)from rfl) t4,dP rfl t5];rfl
 obtain⟨us,ul,P⟩:=unlike (s:=s) (c:=c) (g2:=g2) (g7:=Z (.d (lsD 5 (chD ls rs)))) (g8:=Z (.d (vD vs))) (g9:=g9) (g10:=g10) (g11:=g11) (g12:=g12) (g13:=g13) (g14:=g14) (n:=n) (ch:=chD ls rs) (li:=lsD 5 (chD ls rs)) (M:=M2++q++t++u) nd O;have P:bD yD (hName 9) (GM s c g2 n (chD ls rs) (lsD 5 (chD ls rs)) (vD vs) (Z (.d (lsD 5 (chD ls rs)))) (Z (.d (vD vs))) g9 g10 g11 g12 g13 g14) (M2++q++t++u)=Z (.nx (GM s c g2 n (chD ls rs) (lsD 5 (chD ls rs)) (vD vs) (Z (.d (lsD 5 (chD ls rs)))) (Z (.d (vD vs))) (Z (.d (.list us))) g10 g11 g12 g13 g14),M2++q++t++u):=bJ (i:=9) P;have Q:Dk (M2++q++t++u) c (m+3):=K.app.app.app
 have t9:gOr (gB (fOp (eqX true) (aB 5) (aH (cG 6) (aA (aB 4) aE)))) (gB (fOp (eqX true) (aH bN (aA (aB 6) aE)) (aH bN (aA (aB 9) aE)))) (GM s c g2 n (chD ls rs) (lsD 5 (chD ls rs)) (vD vs) (Z (.d (lsD 5 (chD ls rs)))) (Z (.d (vD vs))) (Z (.d (.list us))) g10 g11 g12 g13 g14) (M2++q++t++u)=Z (false,M2++q++t++u):=by
  rw[sP (bM (aX rfl (aK (aF rfl aI) (U _)) (Idt.ne ((aEK ls rs).lists 5) (by decide))))];have l1:=fG (r:=vD vs) (ds:=vs.map tR) rfl (M2++q++t++u);have l2:=fG (r:=.list us) (ds:=us) rfl (M2++q++t++u);rw[ul]at l2;rw[A0]at l1;rw[bM (aX (aK (aF rfl aI) l1) (aK (aF rfl aI) l2) aGF),A1a];rfl
 obtain⟨v,L6,k,bt⟩:=aCS (s:=s) (c:=c) (g2:=g2) (g7:=Z (.d (lsD 5 (chD ls rs)))) (g8:=Z (.d (vD vs))) (g9:=Z (.d (.list us))) (g12:=g12) (g13:=g13) (g14:=g14) (ch:=chD ls rs) (li:=lsD 5 (chD ls rs)) (du:=vD vs) (M:=M2++q++t++u) (r:=gV (fS (aA (fC (.int 3)) aE)) (hName 13) vI) A C
 obtain⟨a2,M7,e7,⟨B,D,rfl⟩,R⟩:=rO (g:=hName 13) (b:=vI) (n:=3) (Inv:=fun k γ M=>(∃g13 g14,γ=GM s c g2 n (chD ls rs) (lsD 5 (chD ls rs)) (vD vs) (Z (.d (lsD 5 (chD ls rs)))) (Z (.d (vD vs))) (Z (.d (.list us))) (Z (.d (lkD ls))) (Z (.d (rkD rs))) (Z (.d v)) g13 g14)/\Dk M c (m+(3-k))) (by
  rintro k hk γ M ⟨⟨g13,g14,rfl⟩,dk⟩;obtain⟨V,M',e,S⟩:=LF (s:=s) (g2:=g2) (g7:=Z (.d (lsD 5 (chD ls rs)))) (g8:=Z (.d (vD vs))) (g9:=Z (.d (.list us))) (g10:=Z (.d (lkD ls))) (g11:=Z (.d (rkD rs))) (g13:=Z (I (k:Nat))) (g14:=g14) (ch:=chD ls rs) (li:=lsD 5 (chD ls rs)) (du:=vD vs) (m:=m+(3-(k+1))) A bt (by rw[show m+(3-(k+1))+1=m+(3-k)by omega];exact dk);exact⟨_,_,M',rfl,e,⟨_,_,rfl⟩,S⟩) 3 0 (GM s c g2 n (chD ls rs) (lsD 5 (chD ls rs)) (vD vs) (Z (.d (lsD 5 (chD ls rs)))) (Z (.d (vD vs))) (Z (.d (.list us))) (Z (.d (lkD ls))) (Z (.d (rkD rs))) (Z (.d v)) g13 g14) (M2++q++t++u++L6) rfl ⟨⟨_,_,rfl⟩,Q.app⟩
 refine⟨Z (I n),Z (.d (chD ls rs)),Z (.d (lsD 5 (chD ls rs))),Z (.d (vD vs)),Z (.d (lsD 5 (chD ls rs))),Z (.d (vD vs)),Z (.d (.list us)),Z (.d (lkD ls)),Z (.d (rkD rs)),Z (.d v),B,D,M7,?_,R⟩;unfold yG;rw[aV s3,aV s4,aV s5,aV s6,aV s7,aV P,aV ((fR t9).trans rfl),aV (show bD (aB 4) (kE 2 (bI (hName 10) (bI (hName 11) gW))) (GM s c g2 n (chD ls rs) (lsD 5 (chD ls rs)) (vD vs) (Z (.d (lsD 5 (chD ls rs)))) (Z (.d (vD vs))) (Z (.d (.list us))) g10 g11 g12 g13 g14) (M2++q++t++u)=Z (.nx (GM s c g2 n (chD ls rs) (lsD 5 (chD ls rs)) (vD vs) (Z (.d (lsD 5 (chD ls rs)))) (Z (.d (vD vs))) (Z (.d (.list us))) (Z (.d (lkD ls))) (Z (.d (rkD rs))) g12 g13 g14),M2++q++t++u)from rfl)];exact k.trans (cW (wF (J:=3) rfl (mP (by decide) (by decide))) e7)
def main(ns:T9)(S:ns.length<=63):∃M',F_law [.d (.list (ns.map .int))] []=Z (.d (.bool true),M'):=by
 obtain⟨c,M1,A,q⟩:=aEQ ns;have u:Ch 2 [[1]] []:=⟨⟨fun l h=>by rw[List.mem_singleton.mp h];exact⟨U0 _ _,by simp,fun p B=>by rw[List.mem_singleton.mp B];decide⟩,U0 _ _,fun a ha b C=>by rw[List.mem_singleton.mp ha,List.mem_singleton.mp C];exact Lm.refl _⟩,⟨fun r h=>by simp at h,.nil⟩,by decide,by decide⟩;have D:Tm 3 (.tuple [.tuple [.tuple [.int 1]],.tuple []]):=lQ rfl;obtain⟨vs,pm,so⟩:=CW (ls:=GK [[1]] []) (PV u) (by decide);have ev:vs=[[1]]:=List.perm_singleton.mp pm;subst ev;obtain⟨L2,E⟩:=ES (M:=M1) (d:=.tuple [.tuple [.tuple [.int 1]],.tuple []]) u (by decide) (D.wi 4) rfl (AH [[1]]) (AG []) so;have s1:bD (aH mF (aA (aB 0) (aA (fC (.int 440)) aE))) (hName 1) [Z (.d (.list (ns.map .int))),Y,Y,Y,Y,Y,Y,Y,Y,Y,Y,Y,Y,Y,Y] []=Z (.nx [Z (.d (.list (ns.map .int))),Z (.c c),Y,Y,Y,Y,Y,Y,Y,Y,Y,Y,Y,Y,Y],M1):=bJ (i:=1) (aK (aF rfl (aF rfl aI)) A);have F:gB (fOp (eqX true) (oY cZ (aA (fC (.int 2)) (aA DW aE))) EH) [Z (.d (.list (ns.map .int))),Z (.c c),Y,Y,Y,Y,Y,Y,Y,Y,Y,Y,Y,Y,Y] M1=Z (false,M1++L2):=bM (aX (ID (aF rfl (aF (ZU _ _) aI)) E) (WN _ _) (Idt.ne (m:=2) (BE [[1]]) (by decide)))
 obtain⟨G,H,K,⟨g2,g3,g4,g5,g6,g7,g8,g9,g10,g11,g12,g13,g14,rfl⟩,_⟩:=rO (g:=hName 2) (b:=yG) (n:=3) (Inv:=fun k γ M=>(∃g2 g3 g4 g5 g6 g7 g8 g9 g10 g11 g12 g13 g14,γ=[Z (.d (.list (ns.map .int))),Z (.c c),g2,g3,g4,g5,g6,g7,g8,g9,g10,g11,g12,g13,g14])/\Dk M c (134*(3-k))) (by
  rintro k T γ M ⟨⟨g2,g3,g4,g5,g6,g7,g8,g9,g10,g11,g12,g13,g14,rfl⟩,dk⟩;obtain⟨U,h4,V,W,X,h8,h9,N,O,P,Q,R,M2,e,t⟩:=ZF (s:=.d (.list (ns.map .int))) (g2:=Z (I (k:Nat))) (g3:=g3) (g4:=g4) (g5:=g5) (g6:=g6) (g7:=g7) (g8:=g8) (g9:=g9) (g10:=g10) (g11:=g11) (g12:=g12) (g13:=g13) (g14:=g14) (m:=134*(3-(k+1))) (by rw[show 134*(3-(k+1))+134=134*(3-k)by omega];exact dk);exact⟨_,_,M2,rfl,e,⟨_,_,_,_,_,_,_,_,_,_,_,_,_,rfl⟩,t⟩) 3 0 [Z (.d (.list (ns.map .int))),Z (.c c),Y,Y,Y,Y,Y,Y,Y,Y,Y,Y,Y,Y,Y] (M1++L2) rfl ⟨⟨_,_,_,_,_,_,_,_,_,_,_,_,_,rfl⟩,q.app.le (by decide)⟩
 refine⟨H,eG rfl ?_⟩;show aZ _ _ [Z (.d (.list (ns.map .int))),Y,Y,Y,Y,Y,Y,Y,Y,Y,Y,Y,Y,Y,Y] []=_;rw[aV s1,aV ((fR F).trans rfl),aV (cW (wF (J:=3) rfl (mP (by decide) (by decide))) K)];rfl
end Q44
end
end
open PySem PySem.W PyProof.Rows
set_option maxRecDepth 100000 in
set_option maxHeartbeats 0 in
theorem PySem.Challenge.cw_cutstree_k44_chart_sides_holds : PySem.Challenge.rw_cutstree_k44_chart_sides.Holds := by
 refine Q44.k_top ?_
 k_fill
 refine L2.law_walk2 (l:=PySem.Challenge.rw_cutstree_k44_chart_sides) (F:=Q44.F_law) (k:=9) (p:="_law_script") (xd:="straight_within") (by decide +kernel) rfl rfl ⟨fun _=>rfl,by decide,by decide,rfl⟩ (fun w h a=>by first|exact PySem.W.kIn_of a|exact PySem.W.km_in_of a) (by decide +kernel) (by decide +kernel) ?T Q44.main
 case T=>
  intro w mg h KX G;refine Q44.fn_law2 (K:=_) (mg:=mg) ?TT
  refine' Q44.txt_mk KX G ?v0 ?v1 ?v2 ?v3 ?v4 ?v5 ?v6 ?v7 ?v8 ?v9 ?v10 ?v11 ?v12 ?v13 ?v14 ?v15 ?v16 ?v17 ?v18 ?v19 ?v20 ?v21 ?v22 ?v23 ?v24 ?v25 ?v26 ?v27 ?v28 ?v29 ?v30 ?v31 ?v32 ?v33 ?v34 ?v35 ?v36 ?v37 ?v38 ?v39 ?v40 ?v41 ?v42 ?v43 ?v44 ?v45 ?v46 ?v47 ?v48 ?v49 ?v50 ?v51 ?v52 ?v53 ?v54 ?v55 ?v56 ?v57 ?v58 ?v59 ?v60 ?v61 ?v62 ?v63 ?v64 ?otb ?ctb
  (case v0|v1|v2|v3|v4|v5|v6|v7|v8|v9|v10|v11|v12|v13|v14|v15|v18|v19|v20|v22|v23|v24|v25|v28=>k_is)
  (case v16|v17|v21|v26|v27|v29|v30=>kernel_rfl)
  (case v31|v32|v33|v34|v35|v36|v37|v38|v39|v40|v41|v42|v43|v44|v45|v46|v47|v48|v49|v50|v51|v52|v53|v54|v55|v56|v57|v58|v59|v60|v61|v62|v63|v64=>exact L2.def_mk KX G (by k_is) (by k_is) (by k_is) (by k_is))
  (case otb=>kernel_rfl)
  (case ctb=>kernel_rfl)