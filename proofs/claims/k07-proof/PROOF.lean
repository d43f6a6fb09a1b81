import PyProof.Rows.All
import OpenK.KLine
import OpenK.KWalk
import OpenK.KMore
import OpenK.KOwn
import OpenK.KRaise
import KE.KSortTup
import KE.KIsAll
import KE.KTryMore
import KE.KItemsList
import KE.KDictOf
import PyProof.EqAt
import PyProof.EqKinds
import PyProof.TupleCall
import PyProof.ReprLen
import PyProof.ExcArgsOwn
import PyProof.NsDelKeeps
import PyProof.InstStoreFacts
import PyProof.ExcInit
import PyProof.ExcClass2
import PyProof.Rows.ListMul
import PyProof.Draws
import PyProof.EnumMake
import PyProof.Rows.EnumRows
import PyProof.DictCompW
import PyProof.ListRange
import PyProof.ZipIter
import PyProof.AttrMissHeap
import PySem.Challenge.RW_cutstree_k07_come_and_gone
set_option Elab.async false
section
set_option maxRecDepth 100000
set_option maxHeartbeats 0
namespace Q7
open PySem
noncomputable def qv:Program:={ PySem.Challenge.rw_cutstree_k07_come_and_gone.prog with main:={ PySem.Challenge.rw_cutstree_k07_come_and_gone.prog.main with body:=((((((PySem.Challenge.rw_cutstree_k07_come_and_gone.prog.main.body.eraseIdx 31).eraseIdx 26).eraseIdx 21).eraseIdx 14).eraseIdx 7).eraseIdx 0) } }
end Q7
open PySem PySem.W PyProof.Rows
local macro_rules | `(tactic| o_head $H) => `(tactic| (
 refine holds_open (r:=PySem.Challenge.rw_cutstree_k07_come_and_gone.row) (q:=Q7.qv) (loose:=[]) (Xt:=fun s=>xlAt Q7.qv [] s&&recOk (RowW.records (OpenRow.toRowW PySem.Challenge.rw_cutstree_k07_come_and_gone.row)) s) (XP:=XL Q7.qv []) (Yf:=Hook.obs $H) (Ya:=Hook.val $H) (YP:=Hook.says $H) (N:=6100) ?hl (Hook.of $H) (Hook.keeps $H) (fun s e=>xl_of s (Bool.and_eq_true_iff.mp e).1) XL.keeps (by rfl) (by rfl) (by rfl) (fun s e=>recFacts_of (Bool.and_eq_true_iff.mp e).2) (by rfl) (by first|assumption|decide +kernel) (by decide +kernel) ⟨rfl,rfl,rfl,rfl,rfl,by decide +kernel⟩ ?hw ?hc
 (case hl=>intro w;kernel_rfl)))
open_top Q7.k_top for PySem.Challenge.rw_cutstree_k07_come_and_gone
end
section
set_option linter.all false
set_option maxRecDepth 100000
set_option maxHeartbeats 4000000
set_option hygiene false
local macro_rules | `(tactic| sleep 0) => `(tactic| (intro γ M x M' hh W H σ Q G R k))
local macro_rules | `(tactic| sleep 1) => `(tactic| (refine a _ _ _ _ h1 W H σ _ G R fun v W1 H1 e1 G1 r1=>?_))
local macro_rules | `(tactic| sleep 2) => `(tactic| (obtain⟨t,x1,x2⟩:=x.ex))
local macro_rules | `(tactic| sleep 3) => `(tactic| (obtain⟨⟨y,M1⟩,h1,hh⟩:=aG hh))
local macro_rules | `(tactic| sleep 4) => `(tactic| (obtain⟨t,x1,x2⟩:=x.ex;obtain⟨u,y1,y2⟩:=y.ex))
local macro_rules | `(tactic| sleep 5) => `(tactic| (intro γ M o M' hh W H σ D G R k))
local macro_rules | `(tactic| sleep 6) => `(tactic| (obtain⟨⟨ys,M1⟩,h1,hh⟩:=aG hh))
local macro_rules | `(tactic| sleep 7) => `(tactic| (obtain⟨t,x1,x2⟩:=x.ex;obtain⟨u,y1,y2⟩:=y.ex;obtain⟨v,z1,z2⟩:=z.ex))
local macro_rules | `(tactic| sleep 8) => `(tactic| (refine b _ _ _ _ h1 W H σ _ G R fun vs W1 H1 e1 G1 r1=>?_))
local macro_rules | `(tactic| sleep 9) => `(tactic| (refine a _ _ _ _ h1 W H σ _ G R fun W1 H1 e1 G1=>?_))
local macro_rules | `(tactic| sleep 10) => `(tactic| (intro pins s σ H Q I h))
local macro_rules | `(tactic| sleep 11) => `(tactic| (intro x y M z M' h W H v u Q G rx ry k))
local macro_rules | `(tactic| sleep 12) => `(tactic| (rcases r with _|⟨r1,_|_⟩))
local macro_rules | `(tactic| sleep 13) => `(tactic| (intro pins s σ H x y v u Q I rx ry h))
local macro_rules | `(tactic| sleep 14) => `(tactic| (obtain⟨t,x1,x2⟩:=x.ex;obtain⟨u,y1,y2⟩:=y.ex;obtain⟨v,z1,z2⟩:=z.ex;obtain⟨o,w1,w2⟩:=w.ex))
local macro_rules | `(tactic| sleep 15) => `(tactic| (obtain⟨r,q1,q2⟩:=q.ex;obtain⟨t,x1,x2⟩:=x.ex;obtain⟨u,y1,y2⟩:=y.ex))
local macro_rules | `(tactic| sleep 16) => `(tactic| (intro X hP hw hK hc i pins s σ H E I hf st hg))
local macro_rules | `(tactic| sleep 17) => `(tactic| (obtain⟨p,us,rfl,hq,hr⟩:=(show ∃a us,_=V.ref a/\SqL K W.F a us/\aJ K W.F ds us from r1)))
local macro_rules | `(tactic| sleep 18) => `(tactic| (by_cases hc:(y.2==NameKind.free&&env.scope.kind==.function&&env.kindOf y.1==some .cell)=true))
local macro_rules | `(tactic| sleep 19) => `(tactic| (intro pins s σ H D I h))
set_option hygiene true
noncomputable abbrev Fg:=PySem.W.Frag
noncomputable section
abbrev A0:=@PySem.wpAny_bind
abbrev A1:=@Option.bind_some
abbrev A2:=@PySem.Heap.get?_push_of_some
abbrev A3:=@if_pos
abbrev A4:=@Bool.false_ne_true
abbrev A5:=@if_neg
abbrev A6:=@PySem.wpAny_pure
abbrev A7:=@Nat.le_refl
abbrev A8:=@List.length_map
abbrev A9:=@List.length_append
abbrev B0:=@PySem.Heap.lt_size
abbrev B1:=@List.mem_cons_of_mem
abbrev B2:=@List.append_assoc
abbrev B3:=@List.mem_cons_self
abbrev B4:=@Bool.and_eq_true
abbrev B5:=@List.getElem?_eq_getElem
abbrev B6:=@Nat.ne_of_lt
abbrev B7:=@PySem.Heap.get?_push_size
abbrev B8:=@Nat.lt_of_lt_of_le
abbrev B9:=@decide_eq_false
abbrev C0:=@List.length_cons
abbrev C1:=@List.getElem?_append_left
abbrev C2:=@List.getD_eq_getElem?_getD
abbrev C3:=@of_decide_eq_true
abbrev C4:=@List.map_cons
abbrev C5:=@List.append_nil
abbrev C6:=@List.getElem?_append_right
abbrev C7:=@decide_eq_true
abbrev C8:=@Nat.le_trans
abbrev C9:=@List.mem_append_right
abbrev D0:=@List.size_toArray
abbrev D1:=@List.lookup_cons
abbrev D2:=@Option.some.inj
abbrev D3:=@List.map_append
abbrev D4:=@List.getElem?_set_ne
abbrev D5:=@List.getElem?_map
abbrev D6:=@Nat.zero_le
abbrev D7:=@PySem.wpAny_newObj_type
abbrev D8:=@PySem.wpAny_mono
abbrev D9:=@PySem.Heap.get?_update_other
abbrev E1:=@PySem.sizeLine_eq
abbrev E2:=@PySem.wpAny_holding
abbrev E3:=@List.getElem?_set_self
abbrev E4:=@PySem.W.mg_none_of
abbrev E5:=@Array.getD_eq_getD_getElem?
abbrev E6:=@PySem.mem_of_lookup
abbrev E7:=@PySem.wpAny_field
abbrev E8:=@of_decide_eq_false
abbrev E9:=@List.length_filter_le
abbrev F0:=@List.mem_append_left
abbrev F4:=@Ne.symm
abbrev F5:=@Nat.lt_succ_self
abbrev F6:=@Nat.lt_irrefl
abbrev F7:=@Nat.ne_of_gt
abbrev F8:=@PySem.Heap.get?_update_self
abbrev F9:=@List.drop_eq_getElem_cons
abbrev I0:=@PySem.wpAny_truthy_bool
abbrev J0:=@PySem.PassesOwn.never
abbrev J1:=@PySem.W.mg_of
abbrev J2:=@PySem.wpAny_Call_Name_kw
abbrev J3:=@PySem.wpAny_call_entry
abbrev J4:=@List.mem_map_of_mem
abbrev J5:=@Nat.sub_self
abbrev J6:=@List.length_take
abbrev J7:=@List.length_drop
abbrev J8:=@PySem.W.Looks.here
abbrev J9:=@List.nodup_nil
abbrev L4:=@Int.emod_lt_of_pos
abbrev L5:=@List.length_singleton
abbrev L6:=@List.any_cons
abbrev L7:=@PyProof.Rows.slot_tuple_getitem
abbrev L8:=@List.getElem_mem
abbrev O0:=@Nat.add_sub_cancel_left
abbrev O1:=@Nat.lt_trans
abbrev O2:=@congrArg
abbrev O3:=@Bool.eq_iff_iff
abbrev O4:=@PySem.Heap.size_push
abbrev O5:=@PySem.wpAny_callSpecial?_slot
abbrev O6:=@List.length_nil
abbrev O7:=@Int.emod_nonneg
abbrev O8:=@List.nodup_append
abbrev O9:=@PySem.SeqAt.canLay_of_shaped
abbrev S0:=@PySem.Obj.data_mapFields
abbrev S1:=@PySem.wpAny_setField_rec
abbrev S2:=@PySem.wpAny_passesOwn
abbrev S3:=@PySem.W.looks_findIn
abbrev S4:=@PySem.wpAny_standAt
abbrev S5:=@Nat.le_of_lt
abbrev S6:=@List.drop_length
abbrev S7:=@Nat.le_add_right
abbrev S8:=@PySem.F.plain_extend_loop
abbrev S9:=@PySem.Heap.get?_none_of_le
abbrev U0:=@PySem.F.slot_tuple_iterator_next
abbrev U1:=@List.length_set
abbrev U2:=@PySem.codeAny_mono
abbrev U3:=@PySem.W.callWith_K
abbrev U4:=@List.filter_cons_of_pos
abbrev U5:=@List.filter_cons_of_neg
abbrev U6:=@PySem.Heap.get?_update_ne
abbrev U7:=@PySem.wpAny_loadPart'
abbrev U8:=@PyProof.Rows.boot_tuple
abbrev U9:=@PySem.wpAny_setField
abbrev Y0:=@Nat.pow_le_pow_right
abbrev Y1:=@Nat.add_le_add_right
abbrev Y2:=@List.nil_append
abbrev Y3:=@PyProof.Rows.get?_update_seq
abbrev Y4:=@List.nodup_cons
abbrev Y5:=@Array.length_toList
abbrev Y6:=@PyProof.Rows.callWith_type1
abbrev Y7:=@PySem.wpAny_typeNameOfWhole_itemiter
abbrev Y8:=@List.map_map
abbrev Y9:=@PySem.Paired.length
abbrev Z0:=@PySem.PyData.eqvAll.eq_def
abbrev Z1:=@Nat.lt_of_le_of_lt
abbrev Z2:=@PySem.boot_len
abbrev Z3:=@PySem.wpAny_execs_nil
abbrev Z4:=@PyProof.Rows.boot_repr
abbrev Z5:=@PySem.wpAny_call
abbrev Z6:=@PySem.wpAny_pyIter_tuple
namespace L2
variable{H:Hp}{s:Shared}{A:Around}{σ:St}{K:Fg}{pos:Pos}
open PySem PySem.Spec PyProof.Rows
noncomputable abbrev Key:=Sum Int Str
noncomputable def CS:Key->Value->Bool
 |.inl k,v=>Value.isInt k v
 |.inr x,v=>Value.isStrOf x v
noncomputable def aKq(w:World):Key->Int
 |.inl k=>hashInt k
 |.inr x=>hashStr w x
theorem dJ:∀{k:Key}{v:Value},CS k v=true->(∃i t,k=Sum.inl i/\v=Value.int i t)\/(∃x t,k=Sum.inr x/\v=Value.str x t)
 |.inl i,v=>fun h=>by
  obtain⟨t,e⟩:=Value.isInt_shape (k:=i) (v:=v) h;exact .inl ⟨i,t,rfl,e⟩
 |.inr x,v=>fun h=>by
  obtain⟨t,e⟩:=Value.isStrOf_shape (x:=x) (v:=v) h;exact .inr ⟨x,t,rfl,e⟩
theorem VM(i:Int)(t:Tok):CS (.inl i) (.int i t)=true:=by simp[CS,Value.isInt]
theorem VQ(x:Str)(t:Tok):CS (.inr x) (.str x t)=true:=by simp[CS,Value.isStrOf]
theorem aGo(a b:Int):decide ((Sum.inl a:Key)=Sum.inl b)=(a==b):=by
 by_cases e:a=b
 .subst e;simp
 .have h:¬(Sum.inl a:Key)=Sum.inl b:=fun q=>e (Sum.inl.inj q);rw[B9 h];exact(beq_eq_false_iff_ne.mpr e).symm
theorem aIz(a b:Str):decide ((Sum.inr a:Key)=Sum.inr b)=decide (a=b):=by
 by_cases e:a=b
 .subst e;simp
 .have h:¬(Sum.inr a:Key)=Sum.inr b:=fun q=>e (Sum.inr.inj q);rw[B9 h,B9 e]
theorem aGN(a:Int)(b:Str):decide ((Sum.inl a:Key)=Sum.inr b)=false:=B9 (fun q=>nomatch q)
theorem aGY(a:Str)(b:Int):decide ((Sum.inr a:Key)=Sum.inl b)=false:=B9 (fun q=>nomatch q)
noncomputable def eE(prog:Program)(w:World):PySem.KeyKind prog w Key where
 is:=CS
 hash:=aKq w
 inj:=fun v a b ha hb=>by
  rcases dJ ha with⟨i,t,rfl,rfl⟩|⟨x,t,rfl,rfl⟩
  .rcases dJ hb with⟨j,u,rfl,e⟩|⟨y,u,rfl,e⟩
   .injection e with e1 _;rw[e1]
   .exact nomatch e
  .rcases dJ hb with⟨j,u,rfl,e⟩|⟨y,u,rfl,e⟩
   .exact nomatch e
   .injection e with e1 _;rw[e1]
 byValue:=fun k v h=>by
  rcases dJ h with⟨i,t,rfl,rfl⟩|⟨x,t,rfl,rfl⟩<;>rfl
 pyHash:=fun hv h=>by
  rcases dJ hv with⟨i,t,rfl,rfl⟩|⟨x,t,rfl,rfl⟩
  .exact wpAny_pyHash_int h
  .exact wpAny_pyHash_str h
 eqBool:=fun hu hv h=>by
  rcases dJ hu with⟨i,t,rfl,rfl⟩|⟨x,t,rfl,rfl⟩
  .rcases dJ hv with⟨j,u,rfl,rfl⟩|⟨y,u,rfl,rfl⟩
   .rw[aGo]at h;exact wpAny_eqBool_int h
   .rw[aGN]at h;exact SeqAt.EqAt.int_str i t y u _ _ _ _ h
  .rcases dJ hv with⟨j,u,rfl,rfl⟩|⟨y,u,rfl,rfl⟩
   .rw[aGY]at h;exact SeqAt.EqAt.str_int x t j u _ _ _ _ h
   .rw[aIz]at h;exact wpAny_eqBool_str h
 «strs»:=fun k x t v h=>by
  rcases dJ h with⟨i,u,rfl,e⟩|⟨y,u,rfl,e⟩
  .exact nomatch e
  .injection e with e1 _
   subst e1;cases v<;>rfl
theorem LB(prog:Program)(w:World)(i:Int)(t:Tok):(eE prog w).is (.inl i) (.int i t)=true:=VM i t
theorem OO(prog:Program)(w:World)(x:Str)(t:Tok):(eE prog w).is (.inr x) (.str x t)=true:=VQ x t
inductive V where
 |non|bl (b:Bool)|int (i:Int)|str (x:Str)|byt (b:Array UInt8)|flt (b:UInt64)|ref (a:Addr)|ty (n:String)
 deriving DecidableEq
noncomputable def RelV:V->Value->Prop
 |.non,u=>u=Value.none
 |.bl b,u=>u=Value.bool b
 |.int i,u=>∃t,u=Value.int i t
 |.str x,u=>∃t,u=Value.str x t
 |.byt b,u=>∃t,u=Value.bytes b t
 |.flt b,u=>∃t,u=Value.float b t
 |.ref a,u=>u=Value.ref a
 |.ty n,u=>u=Value.type n
noncomputable abbrev bK:List V->List Value->Prop:=Paired RelV
theorem bK.length{xs:List V}{us:List Value}(r:bK xs us):xs.length=us.length:=Y9 r
theorem bK.get:∀{xs:List V}{us:List Value}{i:Nat}{x:V},bK xs us->xs[i]?=some x->∃u,us[i]?=some u/\RelV x u
 |_,_,_,_,.nil=>fun e=>by simp at e
 |_,_,0,_,.cons r _=>fun e=>by simp at e;subst e;exact⟨_,rfl,r⟩
 |_,_,i+1,x,.cons _ t=>fun e=>by
  obtain⟨u,h1,h2⟩:=bK.get (i:=i) (x:=x) t (by simpa using e);exact⟨u,by simpa using h1,h2⟩
theorem bK.set{x:V}{u:Value}(r:RelV x u):∀{xs:List V}{us:List Value}(i:Nat),bK xs us->bK (xs.set i x) (us.set i u)
 |_,_,_,.nil=>.nil
 |_,_,0,.cons _ t=>.cons r t
 |_,_,i+1,.cons q t=>.cons q (bK.set r i t)
theorem bK.append:∀{xs ys:List V}{us ws:List Value},bK xs us->bK ys ws->bK (xs++ys) (us++ws)
 |_,_,_,_,.nil=>fun s=>s
 |_,_,_,_,.cons r t=>fun s=>.cons r (bK.append t s)
theorem bK.take:∀{xs:List V}{us:List Value}(n:Nat),bK xs us->bK (xs.take n) (us.take n)
 |_,_,0,_=>.nil
 |_,_,_+1,.nil=>.nil
 |_,_,n+1,.cons r t=>.cons r (bK.take n t)
theorem bK.drop:∀{xs:List V}{us:List Value}(n:Nat),bK xs us->bK (xs.drop n) (us.drop n)
 |_,_,0,r=>r
 |_,_,_+1,.nil=>.nil
 |_,_,n+1,.cons _ t=>bK.drop n t
noncomputable def yA:Option V->Option Value->Prop
 |some v,some u=>RelV v u
 |none,none=>True
 |_,_=>False
noncomputable def KV{κ:Type}:List (κ×V)->List (κ×Value)->Prop:=Paired fun(p:κ×V)(q:κ×Value)=>p.1=q.1/\RelV p.2 q.2
noncomputable def kV:Key->V
 |.inl i=>.int i
 |.inr x=>.str x
inductive HO where
 |lst (xs:List V)
 |tup (xs:List V)
 |dK (kvs:List (Key×V))|dT (kvs:List (List Key×V))
 |set (S:Int->Bool) (n:Nat)
 |ins (C dx:Addr) (fs:List (Str×V))
 |own (x:Addr)
 |xd (fs:List (Str×V))
 |met (f x:Addr)
 |rng (lo hi:Int)
 |frz (o:Obj) (u:HO)
 |tbl (ps:Array Value)
 |ext (φ:Heap->Prop)
noncomputable abbrev Hp:=Addr->Option HO
noncomputable def upd(H:Hp)(a:Addr)(o:HO):Hp:=fun b=>if b=a then some o else H b
theorem aR{a:Addr}{o:HO}:upd H a o a=some o:=by unfold upd;rw[A3 rfl]
theorem aL{a b:Addr}{o:HO}(h:b≠a):upd H a o b=H b:=by unfold upd;rw[A5 h]
theorem zW{a b:Addr}{o u:HO}(h:H a=some o)(h':H b=some u)(d:o≠u):a≠b:=by
 intro e;subst e;rw[h]at h';exact d (D2 h')
theorem aQ{a b:Addr}{o:HO}(h:H a=some o)(h':H b=none):a≠b:=by
 intro e;subst e;rw[h]at h';cases h'
section
variable(P:Program)(w:World)
noncomputable def dM(H:Hp)(h:Heap)(a:Addr):HO->Prop
 |.lst xs=>xs.length<=sizeLine/\∃(its:List Value)(n:Nat),bK xs its/\h.get? a=some { cls:=.type "list",data:=.seq its.toArray n }
 |.tup xs=>xs.length<=sizeLine/\∃its:List Value,bK xs its/\IsTup h a its.toArray
 |.dK kvs=>kvs.length<=sizeLine/\(a==sysModules)=false/\∃vs,KV kvs vs/\h.DictOf (eE P w) a vs
 |.dT kvs=>kvs.length<=sizeLine/\(a==sysModules)=false/\∃xs:List (List Key×Addr×Value),
  Paired (fun(p:List Key×V)(q:List Key×Addr×Value)=>p.1=q.1/\H q.2.1=some (.tup (p.1.map kV))/\RelV p.2 q.2.2) kvs xs /\
  ∃o es ep,h.get? a=some o/\o.ExactDict/\o.data=.dict es ep/\es.toList=xs.map (entryOfKey (tupleKind (eE P w)))/\(xs.map (·.1)).Nodup
 |.set S n=>h.SetOf (intKind P w) a S n
 |.ins C dx fs=>H dx=some (.own a)/\fs.length<=1000/\dx≠a/\h.get? a=some (PySem.W.instObj C dx) /\
  ∃mA,h.Ns1 dx mA/\(∀f,yA (fs.lookup f) (mA f))/\PySem.Within mA (fs.map (·.1))
 |.own _=>∃o,h.get? a=some o
 |.xd fs=>∃mA,h.Ns1 a mA/\∀f,yA (fs.lookup f) (mA f)
 |.rng lo hi=>∃t u v,h.get? a=some { cls:=.type "range",data:=.fields #[.int lo t,.int hi u,.int 1 v] }
 |.frz o u=>h.get? a=some o/\dM H h a u
 |.tbl ps=>h.get? a=some { cls:=.none,data:=.fields ps }
 |.met f x=>h.get? a=some (PySem.W.methodObj (.ref f) (.ref x))
 |.ext φ=>φ h/\(∃o,h.get? a=some o)/\∀h1 h2:Heap,φ h1->(∀o,h1.get? a=some o->h2.get? a=some o)->φ h2
noncomputable def HOk(H:Hp)(h:Heap):Prop:=∀a o,H a=some o->dM P w H h a o
end
section
variable{P:Program}{w:World}{H H':Hp}{h h':Heap}{a:Addr}{o:HO}
theorem dM.lt(x:dM P w H h a o):a<h.objs.size:=by
 cases o with
 |lst xs=>obtain⟨_,_,_,_,e⟩:=x;exact B0 e
 |tup xs=>obtain⟨_,_,_,p⟩:=x;exact p.lt
 |dK kvs=>obtain⟨_,_,_,_,o,_,_,e,_⟩:=x;exact B0 e
 |dT kvs=>obtain⟨_,_,_,_,o,_,_,e,_⟩:=x;exact B0 e
 |set S n=>obtain⟨o,_,_,_,e,_⟩:=x;exact B0 e
 |ins C dx fs=>obtain⟨_,_,_,e,_⟩:=x;exact B0 e
 |own y=>obtain⟨_,e⟩:=x;exact B0 e
 |xd fs=>obtain⟨_,⟨_,_,_,e,_⟩,_⟩:=x;exact B0 e
 |rng lo hi=>obtain⟨_,_,_,e⟩:=x;exact B0 e
 |frz ob u=>obtain⟨e,_⟩:=x;exact B0 e
 |tbl ps=>exact B0 (show h.get? a=some _ from x)
 |met f y=>exact B0 (show h.get? a=some _ from x)
 |ext φ=>obtain⟨_,⟨_,e⟩,_⟩:=x;exact B0 e
theorem Paired.mapP{α β:Type}{F G:α->β->Prop}:∀{l₁:List α}{l₂:List β},Paired F l₁ l₂->(∀a b,F a b->G a b)->Paired G l₁ l₂
 |_,_,.nil=>fun _=>.nil
 |_,_,.cons r t=>fun f=>.cons (f _ _ r) (Paired.mapP t f)
theorem dM.stay(x:dM P w H h a o)(k:∀b u,(b=a\/H b=some (.own a))->h.get? b=some u->h'.get? b=some u)
 (ho:∀b,H b=some (.own a)->H' b=some (.own a)) (ht:∀b xs,H b=some (.tup xs)->H' b=some (.tup xs)):dM P w H' h' a o:=by
 induction o with
 |lst xs=>obtain⟨z,its,n,r,e⟩:=x;exact⟨z,its,n,r,k _ _ (.inl rfl) e⟩
 |tup xs=>obtain⟨z,its,r,ob,e,c⟩:=x;exact⟨z,its,r,ob,k _ _ (.inl rfl) e,c⟩
 |dK kvs=>obtain⟨z,y,vs,r,ob,es,ep,e,c⟩:=x;exact⟨z,y,vs,r,ob,es,ep,k _ _ (.inl rfl) e,c⟩
 |dT kvs=>
  obtain⟨z,y,xs,r,ob,es,ep,e,c⟩:=x;exact⟨z,y,xs,Paired.mapP r fun p q z=>⟨z.1,ht _ _ z.2.1,z.2.2⟩,ob,es,ep,k _ _ (.inl rfl) e,c⟩
 |set S n=>obtain⟨ob,es,ep,t,e,c⟩:=x;exact⟨ob,es,ep,t,k _ _ (.inl rfl) e,c⟩
 |ins C dx fs=>
  obtain⟨d,z,ne,e,mA,⟨od,es,ep,e2,c⟩,r⟩:=x;exact⟨ho _ d,z,ne,k _ _ (.inl rfl) e,mA,⟨od,es,ep,k _ _ (.inr d) e2,c⟩,r⟩
 |own y=>obtain⟨ob,e⟩:=x;exact⟨ob,k _ _ (.inl rfl) e⟩
 |xd fs=>obtain⟨mA,⟨od,es,ep,e,c⟩,r⟩:=x;exact⟨mA,⟨od,es,ep,k _ _ (.inl rfl) e,c⟩,r⟩
 |rng lo hi=>obtain⟨t,u,v,e⟩:=x;exact⟨t,u,v,k _ _ (.inl rfl) e⟩
 |frz ob u ih=>obtain⟨e,q⟩:=x;exact⟨k _ _ (.inl rfl) e,ih q⟩
 |tbl ps=>
  have e:h.get? a=some { cls:=.none,data:=.fields ps }:=x;show h'.get? a=some { cls:=.none,data:=.fields ps };exact k a _ (.inl rfl) e
 |met f y=>
  have e:h.get? a=some (PySem.W.methodObj (.ref f) (.ref y)):=x;show h'.get? a=some (PySem.W.methodObj (.ref f) (.ref y));exact k a _ (.inl rfl) e
 |ext φ=>obtain⟨p,⟨o,e⟩,st⟩:=x;exact⟨st _ _ p fun o q=>k _ _ (.inl rfl) q,⟨o,k _ _ (.inl rfl) e⟩,st⟩
theorem HOk.lt(x:HOk P w H h)(e:H a=some o):a<h.objs.size:=(x a o e).lt
theorem HOk.fresh(x:HOk P w H h)(e:h.objs.size<=a):H a=none:=by
 cases q:H a with
 |none=>rfl
 |some u=>exact absurd (B8 (x.lt q) e) (F6 _)
theorem HOk.kept(x:HOk P w H h)(k:∀b u,h.get? b=some u->h'.get? b=some u):HOk P w H h':=fun a o e=>
 (x a o e).stay (fun b u _ q=>k b u q) (fun _ q=>q) fun _ _ q=>q
theorem HOk.laid(x:HOk P w H h)(k:∀b u,h.get? b=some u->h'.get? b=some u)(hp:h.objs.size<=a)(new:dM P w (upd H a o) h' a o):HOk P w (upd H a o) h':=fun b u e=>by
 have hn:=x.fresh hp;by_cases hb:b=a
 .subst hb;rw[aR]at e;cases e;exact new
 .rw[aL hb]at e;exact(x b u e).stay (fun c v _ q=>k c v q) (fun c q=>by rw[aL (aQ q hn)];exact q) fun c xs q=>by rw[aL (aQ q hn)];exact q
end
noncomputable def Rd(H:Hp)(a:Addr)(u:HO):Prop:=H a=some u\/∃o,H a=some (.frz o u)
theorem Rd.ok{P:Program}{w:World}{h:Heap}{a:Addr}{u:HO}(r:Rd H a u)(x:HOk P w H h):dM P w H h a u:=by
 rcases r with r|⟨o,r⟩
 .exact x a u r
 .obtain⟨_,q⟩:=x a _ r;exact q
noncomputable def Mut:Option HO->Prop
 |some (.lst _)=>True
 |some (.dK _)=>True
 |some (.dT _)=>True
 |some (.set _ _)=>True
 |some (.ins _ _ _)=>True
 |some (.ext _)=>True
 |_=>False
section
variable{P:Program}{w:World}{H:Hp}{h h':Heap}{x e:Addr}{o':HO}
theorem HOk.write(ok:HOk P w H h)(mu:Mut (H x))(he:e=x\/H e=some (.own x))(k:∀b u,b≠e->h.get? b=some u->h'.get? b=some u)(heo:∃u,h'.get? e=some u)
 (new:dM P w (upd H x o') h' x o'):HOk P w (upd H x o') h':=fun b u q=>by
 have nown:∀c y,H c=some (.own y)->c≠x:=fun c y r z=>by subst z;rw[r]at mu;exact mu
 have ntup:∀c xs,H c=some (.tup xs)->c≠x:=fun c xs r z=>by subst z;rw[r]at mu;exact mu
 by_cases hb:b=x
 .subst hb;rw[aR]at q;cases q;exact new
 .rw[aL hb]at q;by_cases hbe:b=e
  .have q':H b=some (.own x):=by
    rcases he with z|z
    .exact absurd (hbe.trans z) hb
    .rw[hbe];exact z
   rw[q]at q';cases q';obtain⟨v,hv⟩:=heo;exact⟨v,by rw[hbe];exact hv⟩
  .refine(ok b u q).stay (fun c v hc r=>k c v ?_ r) (fun c r=>by rw[aL (nown c b r)];exact r) fun c xs r=>by rw[aL (ntup c xs r)];exact r
   rcases hc with rfl|hc
   .exact hbe
   .rintro rfl;rcases he with z|z
    .exact nown c b hc z
    .rw[hc]at z;cases z;exact hb rfl
end
structure Un(fs ex:List Addr)(H H':Hp)(h h':Heap):Prop where
 keep:∀b o,h.get? b=some o->H b=none->b∉fs->b∉ex->h'.get? b=some o
 slot:∀b o,h.get? b=some o->H b=none->b∈fs->b∉ex->∃sl,h'.get? b=some { o with slots:=sl }
 free:∀b o,h.get? b=some o->H b=none->b∉ex->H' b=none
 there:∀b o,h.get? b=some o->b∉ex->∃o',h'.get? b=some o'
 tups:∀b xs,H b=some (.tup xs)->H' b=some (.tup xs)
 frzs:∀b o u,H b=some (.frz o u)->H' b=some (.frz o u)
 tbls:∀b ps,H b=some (.tbl ps)->∃more,H' b=some (.tbl (ps++more))
section
variable{fs fs' ex ex':List Addr}{H H1 H2:Hp}{h h1 h2 h':Heap}{a x e:Addr}{o:HO}
theorem Un.any(u:Un fs ex H H1 h h1){b:Addr}{ob:Obj}(q:h.get? b=some ob)(n:H b=none)(hx:b∉ex):∃sl,h1.get? b=some { ob with slots:=sl }:=by
 by_cases hb:b∈fs
 .exact u.slot b ob q n hb hx
 .exact⟨ob.slots,u.keep b ob q n hb hx⟩
theorem Un.kept(k:∀b u,h.get? b=some u->h'.get? b=some u):Un fs ex H H h h':=
 ⟨fun b ob q _ _ _=>k b ob q,fun b ob q _ _ _=>⟨ob.slots,k b ob q⟩,fun _ _ _ n _=>n,fun b ob q _=>⟨ob,k b ob q⟩,fun _ _ q=>q,fun _ _ _ q=>q,fun _ ps q=>⟨#[],by rw[q];simp⟩⟩
theorem Un.refl:Un fs ex H H h h:=Un.kept fun _ _ q=>q
theorem Un.laid(k:∀b u,h.get? b=some u->h'.get? b=some u)(hp:h.objs.size<=a)(hn:H a=none):Un fs ex H (upd H a o) h h' where
 keep:=fun b u q _ _ _=>k b u q
 slot:=fun b u q _ _ _=>⟨u.slots,k b u q⟩
 free:=fun b u q n _=>by rw[aL (B6 (B8 (B0 q) hp))];exact n
 there:=fun b u q _=>⟨u,k b u q⟩
 tups:=fun b xs q=>by rw[aL (aQ q hn)];exact q
 frzs:=fun b u xs q=>by rw[aL (aQ q hn)];exact q
 tbls:=fun b ps q=>⟨#[],by rw[aL (aQ q hn),q];simp⟩
theorem Un.write(mu:Mut (H x))(he:e=x\/H e=some (.own x))(k:∀b u,b≠e->h.get? b=some u->h'.get? b=some u)(heo:∃u,h'.get? e=some u):Un fs ex H (upd H x o) h h':=by
 have hx:∀b,H b=none->b≠x:=fun b n z=>by subst z;rw[n]at mu;exact mu
 have hb:∀b,H b=none->b≠e:=fun b n z=>by
  subst z;rcases he with r|r
  .exact hx b n r
  .rw[n]at r;cases r
 have hm:∀b u,H b=some u->¬Mut (some u)->b≠x:=fun b u q nm z=>by subst z;rw[q]at mu;exact nm mu
 refine⟨fun b u q n _ _=>k b u (hb b n) q,fun b u q n _ _=>⟨u.slots,k b u (hb b n) q⟩,fun b u q n _=>by rw[aL (hx b n)];exact n,fun b u q _=>?_,
  fun b xs q=>by rw[aL (hm b _ q fun z=>z)];exact q,fun b u xs q=>by rw[aL (hm b _ q fun z=>z)];exact q,fun b ps q=>⟨#[],by rw[aL (hm b _ q fun z=>z),q];simp⟩⟩
 by_cases hbe:b=e
 .subst hbe;exact heo
 .exact⟨u,k b u hbe q⟩
end
noncomputable def trk(h:Heap)(H:Hp):List Addr:=(List.range h.objs.size).filter fun a=>(H a).isSome
noncomputable def IB(h:Heap)(H:Hp):Heap:=PySem.W.hideAll h (trk h H)
theorem VW(h:Heap)(H:Hp):(IB h H).objs.size=h.objs.size:=PySem.W.hideAll_size _ _
theorem aCp{h:Heap}{b:Addr}{o:Obj}(e:h.get? b=some o)(n:H b=none):(IB h H).get? b=some o:=
 PySem.W.hideAll_get _ e fun hm=>by
  have q:(H b).isSome=true:=(List.mem_filter.mp hm).2;rw[n]at q;simp at q
theorem aCO{h:Heap}{b:Addr}{o:Obj}(e:(IB h H).get? b=some o):h.get? b=some o/\H b=none:=by
 have e':h.get? b=some o:=PySem.W.of_hideAll (trk h H) e;refine⟨e',?_⟩;cases q:H b with
 |none=>rfl
 |some x=>
  have hm:b∈trk h H:=List.mem_filter.mpr ⟨List.mem_range.mpr (B0 e'),by simp[q]⟩;have z:(IB h H).get? b=none:=PySem.W.hideAll_none (trk h H) hm;rw[z]at e;cases e
noncomputable def nA(g h:Heap)(L:Addr):List (Addr×Obj):=(List.range h.objs.size).filterMap fun a=>if a=L\/(g.get? a).isSome=true then none else(h.get? a).map fun o=>(a,o)
theorem mQ{g h:Heap}{L a:Addr}{o:Obj}(h1:a≠L)(h2:g.get? a=none)(h3:h.get? a=some o):(a,o)∈nA g h L:=
 List.mem_filterMap.mpr ⟨a,List.mem_range.mpr (B0 h3),by simp[h1,h2,h3]⟩
theorem CH{g h:Heap}{L:Addr}{p:Addr×Obj}(hp:p∈nA g h L):p.1≠L/\g.get? p.1=none/\h.get? p.1=some p.2:=by
 obtain⟨b,_,e⟩:=List.mem_filterMap.mp hp;split at e
 .cases e
 .rename_i hn;cases q:h.get? b with
  |none=>rw[q]at e;simp at e
  |some u=>
   rw[q]at e;simp only[Option.map_some,Option.some.injEq]at e;subst e;refine⟨fun z=>hn (.inl z),?_,q⟩;show g.get? b=none;cases r:g.get? b with
   |none=>rfl
   |some v=>exact(hn (.inr (by simp[r]))).elim
noncomputable def rest(g h:Heap)(L d:Addr):List (Addr×Obj):=(nA g h L).filter fun p=>decide (p.1≠d)
theorem MP{g h:Heap}{L:Addr}:News g L h (nA g h L):=fun p hp=>let⟨a,b,c⟩:=CH hp;⟨c,a,b⟩
structure Mod(K:Fg)(mg:Str->Option Value)(base:Heap):Prop where
 kin:K.In base
 glob:base.Ns mainGlobals mg
 blt:∃mb,base.Ns builtinsNs mb/\∀x:Str,x≠"__name__"->mb x=bootBuiltins x
 nolimit:base.NoLimit
 sysm:∃o es ep,base.get? sysModules=some o/\o.data=.dict es ep
structure Cx where
 prog:Program
 w:World
 K:Fg
 mg:Str->Option Value
 base:Heap
 A:Around
 N:List Str
 s₀:Shared
 H₀:Hp
 env:Env
 outer:List Env
 stack:List Env
 ex:List Addr
 fn:Str->Bool
 calm:Bool
 pn:List (Addr×Obj)
 xe:Value->Shared->Prop
noncomputable def frs(l:List Env):List Addr:=l.filterMap (·.frame)
noncomputable abbrev Cx.fs(X:Cx):List Addr:=frs X.outer
noncomputable def Vis(sc:Scope)(x:Str):Prop:=sc.names.lookup x=some .local\/sc.names.lookup x=some .cell\/sc.names.lookup x=some .free
noncomputable def Loc(sc:Scope)(x:Str):Prop:=sc.names.lookup x=some .local\/sc.names.lookup x=some .cell
noncomputable def Look(env:Env)(h:Heap)(m:Str->Option Value)(x:Str)(u:Value):Prop:=
 (env.kindOf x=some .local/\m x=some u)\/((env.kindOf x=some .cell\/env.kindOf x=some .free)/\∃c,env.cells.lookup x=some c/\h.IsCell c (some u))
structure Cx.Ok(X:Cx):Prop where
 mod:Mod X.K X.mg X.base
 kind:X.env.scope.kind=.function
 glob:X.env.globals=mainGlobals
 blt:X.env.builtins=builtinsNs
 above:X.s₀.heap.objs.size<=X.env.locals
 inj:∀x y c,X.env.cells.lookup x=some c->X.env.cells.lookup y=some c->x=y
 has:∀x,(X.env.kindOf x=some .cell\/X.env.kindOf x=some .free)->∃c,X.env.cells.lookup x=some c
 cab:∀x c,X.fn x=true->X.env.cells.lookup x=some c->X.s₀.heap.objs.size<=c
 hd:X.calm=true->X.A.handled=none
 frames:X.A.frames=some X.stack
 stk:X.stack=X.outer\/(X.stack=X.env::X.outer/\X.env.frame=some X.env.locals)
 exf:∀b∈X.ex,b≠X.env.locals/\∀x c,X.env.cells.lookup x=some c->c≠b
 bs:∀b o,X.base.get? b=some o->X.s₀.heap.get? b=some o/\X.H₀ b=none
 bsz:X.base.objs.size<=X.s₀.heap.objs.size
 noex:∀b o,X.base.get? b=some o->b∉X.ex
 exfs:∀b∈X.ex,b∉X.fs
 funs:X.s₀.heap.FunFrames X.base X.outer
 frf:∀b∈X.fs,X.H₀ b=none
structure Inv(X:Cx)(pins:List (Addr×Obj))(σ:List (Option V))(H:Hp)(s:Shared):Prop where
 ok:X.Ok
 os:s.os=X.s₀.os
 bare:AllBare s.gens
 base:Un X.fs X.ex X.H₀ H X.s₀.heap s.heap
 loc:∃m,s.heap.Ns X.env.locals m/\∀(i:Nat)(x:Str)(v:V),X.N[i]?=some x->σ[i]?=some (some v)->Vis X.env.scope x->∃u,RelV v u/\Look X.env s.heap m x u
 cell:∀x c,X.env.cells.lookup x=some c->∃v,s.heap.IsCell c v
 free:H X.env.locals=none
 freeC:∀x c,X.env.cells.lookup x=some c->H c=none
 pin:∀p∈X.pn++pins,s.heap.get? p.1=some p.2/\H p.1=none/\p.1≠X.env.locals/\p.1∉X.fs/\∀v,p.2.data≠.cell v
 hok:HOk X.prog X.w H s.heap
 len:σ.length=X.N.length
section
variable{X:Cx}{pins:List (Addr×Obj)}{σ:List (Option V)}{H H':Hp}{s:Shared}{h':Heap}
theorem Cx.Ok.nofr(ok:X.Ok){b:Addr}{o:Obj}(e:X.base.get? b=some o):b∉X.fs:=fun hb=>by
 have:=(ok.funs.mem hb).1;rw[e]at this;cases this
theorem Inv.bs(I:Inv X pins σ H s):∀b o,X.base.get? b=some o->s.heap.get? b=some o/\H b=none:=fun b o e=>
 ⟨I.base.keep b o (I.ok.bs b o e).1 (I.ok.bs b o e).2 (I.ok.nofr e) (I.ok.noex b o e),I.base.free b o (I.ok.bs b o e).1 (I.ok.bs b o e).2 (I.ok.noex b o e)⟩
theorem Inv.bk(I:Inv X pins σ H s):∀b o,X.base.get? b=some o->s.heap.get? b=some o:=fun b o e=>(I.bs b o e).1
theorem Inv.mod(I:Inv X pins σ H s):Mod X.K X.mg X.base:=I.ok.mod
theorem Inv.kIn(I:Inv X pins σ H s):X.K.In s.heap:=I.ok.mod.kin.keeps I.bk
theorem Inv.fr(I:Inv X pins σ H s):∃m,Fr X.base X.env.locals s.heap m:=
 let⟨m,hn,_⟩:=I.loc
 ⟨m,hn,I.bk,C8 I.ok.bsz I.ok.above⟩
theorem Inv.lt(I:Inv X pins σ H s):X.env.locals<s.heap.objs.size:=let⟨_,hn,_⟩:=I.loc;hn.lt
theorem Inv.sz(I:Inv X pins σ H s):X.s₀.heap.objs.size<=s.heap.objs.size:=C8 I.ok.above (S5 I.lt)
theorem Inv.nofs(I:Inv X pins σ H s){a:Addr}(h:s.heap.objs.size<=a):a∉X.fs:=fun hb=>by
 obtain⟨_,o,ho,_⟩:=I.ok.funs.mem hb;exact absurd (B8 (B0 ho) (C8 I.sz h)) (F6 _)
theorem Inv.cne(I:Inv X pins σ H s):∀x c,X.env.cells.lookup x=some c->c≠X.env.locals:=fun x c e z=>by
 obtain⟨v,o,ho,hd⟩:=I.cell x c e;obtain⟨m,⟨o',es,ep,ho',hd',_⟩,_⟩:=I.loc;rw[z,ho']at ho;cases ho;rw[hd']at hd;cases hd
theorem Inv.funs(I:Inv X pins σ H s):s.heap.FunFrames X.base X.outer:=by
 have all:∀(l:List Env),(∀b∈frs l,b∈X.fs)->X.s₀.heap.FunFrames X.base l->s.heap.FunFrames X.base l:=by
  intro l
  induction l with
  |nil=>intro _ _;trivial
  |cons env r ih=>
   intro hs hl;obtain⟨hk,⟨L,o,hf,hn,ho,hd⟩,hr⟩:=hl;have hL:L∈X.fs:=hs L (by unfold frs;rw[List.filterMap_cons,hf];exact B3);obtain⟨sl,e⟩:=I.base.slot L o ho (I.ok.frf L hL) hL fun z=>I.ok.exfs L z hL;exact⟨hk,⟨L,_,hf,hn,e,hd⟩,ih (fun b hb=>hs b (by unfold frs;rw[List.filterMap_cons,hf];exact B1 _ hb)) hr⟩
 exact all X.outer (fun _ hb=>hb) I.ok.funs
theorem Inv.stack(I:Inv X pins σ H s):s.heap.FunFrames X.base X.stack:=by
 rcases I.ok.stk with e|⟨e,hf⟩
 .rw[e];exact I.funs
 .rw[e];obtain⟨m,hn,_⟩:=I.loc;refine .cons (by rw[I.ok.kind];decide) hf hn ?_ I.funs;exact S9 (C8 I.ok.bsz I.ok.above)
theorem Inv.stkSub(I:Inv X pins σ H s):∀b∈frs X.stack,b∈X.env.locals::X.fs:=fun b hb=>by
 rcases I.ok.stk with e|⟨e,hf⟩
 .rw[e]at hb;exact B1 _ hb
 .rw[e]at hb;unfold frs at hb;rw[List.filterMap_cons,hf]at hb;exact hb
theorem Inv.stkFree(I:Inv X pins σ H s):∀b∈frs X.stack,H b=none:=fun b hb=>by
 rcases List.mem_cons.mp (I.stkSub b hb)with e|hb
 .rw[e];exact I.free
 .obtain⟨_,o,ho,_⟩:=I.ok.funs.mem hb;exact I.base.free b o ho (I.ok.frf b hb) fun z=>I.ok.exfs b z hb
theorem Inv.step{g':Array GenState}{t':Nat}{d':Drawn}{ch:List Addr}(I:Inv X pins σ H s)
 (hch:∀b∈ch,(b∈X.ex\/X.s₀.heap.objs.size<=b)/\b≠X.env.locals/\(∀x c,X.env.cells.lookup x=some c->c≠b)/\∀p∈X.pn++pins,p.1≠b)
 (keep:∀b o,b≠X.env.locals->b∉X.fs->b∉ch->s.heap.get? b=some o->H b=none->h'.get? b=some o)
 (slot:∀b o,b≠X.env.locals->b∈X.fs->b∉ch->s.heap.get? b=some o->H b=none->∃sl,h'.get? b=some { o with slots:=sl }) (free:∀b o,b∉ch->s.heap.get? b=some o->H b=none->H' b=none)
 (there:∀b o,b∉ch->s.heap.get? b=some o->∃o',h'.get? b=some o')
 (tups:∀b xs,H b=some (.tup xs)->H' b=some (.tup xs)) (frzs:∀b o u,H b=some (.frz o u)->H' b=some (.frz o u)) (tbls:∀b ps,H b=some (.tbl ps)->∃more,H' b=some (.tbl (ps++more)))
 (ns:∀m,s.heap.Ns X.env.locals m->h'.Ns X.env.locals m) (hok:HOk X.prog X.w H' h') (hg:AllBare g'):
 Inv X pins σ H' { s with heap:=h',gens:=g',drawn:=d',toks:=t' }:=by
 have neL:∀b o,X.s₀.heap.get? b=some o->b≠X.env.locals:=fun b o e=>B6 (B8 (B0 e) I.ok.above)
 have neC:∀b o,X.s₀.heap.get? b=some o->b∉X.ex->b∉ch:=fun b o e hx hb=>by
  rcases (hch b hb).1 with z|z
  .exact hx z
  .exact absurd (B8 (B0 e) z) (F6 _)
 have cellK:∀x c,X.env.cells.lookup x=some c->∀v,s.heap.IsCell c v->h'.IsCell c v:=fun x c e v ⟨o,ho,hd⟩=>by
  have nch:c∉ch:=fun z=>(hch c z).2.2.1 x c e rfl;by_cases hc:c∈X.fs
  .obtain⟨sl,q⟩:=slot c o (I.cne x c e) hc nch ho (I.freeC x c e);exact⟨_,q,hd⟩
  .exact⟨o,keep c o (I.cne x c e) hc nch ho (I.freeC x c e),hd⟩
 refine⟨I.ok,I.os,hg,⟨fun b o e n hb hx=>?_,fun b o e n hb hx=>?_,fun b o e n hx=>?_,fun b o e hx=>?_,fun b xs e=>tups b xs (I.base.tups b xs e),fun b o xs e=>frzs b o xs (I.base.frzs b o xs e),fun b ps e=>?_⟩,?_,fun x c e=>?_,?_,fun x c e=>?_,fun p hp=>?_,hok,I.len⟩
 .exact keep b o (neL b o e) hb (neC b o e hx) (I.base.keep b o e n hb hx) (I.base.free b o e n hx)
 .obtain⟨sl,e1⟩:=I.base.slot b o e n hb hx;obtain⟨sl',e2⟩:=slot b _ (neL b o e) hb (neC b o e hx) e1 (I.base.free b o e n hx);exact⟨sl',e2⟩
 .obtain⟨o',e1⟩:=I.base.there b o e hx;exact free b o' (neC b o e hx) e1 (I.base.free b o e n hx)
 .obtain⟨o',e1⟩:=I.base.there b o e hx;exact there b o' (neC b o e hx) e1
 .obtain⟨m1,e1⟩:=I.base.tbls b ps e;obtain⟨m2,e2⟩:=tbls b _ e1;exact⟨m1++m2,by rw[e2,Array.append_assoc]⟩
 .obtain⟨m,hn,hl⟩:=I.loc;refine⟨m,ns m hn,fun i x v e1 e2 e3=>?_⟩;obtain⟨u,r,l⟩:=hl i x v e1 e2 e3;refine⟨u,r,?_⟩;rcases l with l|⟨k,c,e,z⟩
  .exact .inl l
  .exact .inr ⟨k,c,e,cellK x c e _ z⟩
 .obtain⟨v,z⟩:=I.cell x c e;exact⟨v,cellK x c e v z⟩
 .obtain⟨m,⟨o,_,_,ho,_⟩,_⟩:=I.loc;exact free _ o (fun z=>(hch _ z).2.1 rfl) ho I.free
 .obtain⟨v,o,ho,hd⟩:=I.cell x c e;exact free c o (fun z=>(hch c z).2.2.1 x c e rfl) ho (I.freeC x c e)
 .obtain⟨e,n,ne,nf,d⟩:=I.pin p hp;have nch:p.1∉ch:=fun z=>(hch p.1 z).2.2.2 p hp rfl;exact⟨keep p.1 p.2 ne nf nch e n,free p.1 p.2 nch e n,ne,nf,d⟩
theorem Inv.un{t':Nat}(I:Inv X pins σ H s)(u:Un X.fs [] H H' s.heap h')(hok:HOk X.prog X.w H' h'):Inv X pins σ H' { s with heap:=h',toks:=t' }:=by
 obtain⟨m,⟨o,es,ep,ho,r⟩,_⟩:=id I.loc;obtain⟨sl,hL⟩:=u.any ho I.free (by simp)
 exact I.step (g':=s.gens) (d':=s.drawn) (ch:=[]) (fun _ z=>nomatch z) (fun b o _ hb _ e n=>u.keep b o e n hb (by simp)) (fun b o _ hb _ e n=>u.slot b o e n hb (by simp)) (fun b o _ e n=>u.free b o e n (by simp)) (fun b o _ e=>u.there b o e (by simp)) u.tups u.frzs u.tbls (fun m' hm=>by
  obtain⟨o',es',ep',ho',r'⟩:=hm;rw[ho]at ho';cases ho';exact⟨_,es',ep',hL,r'⟩) hok I.bare
theorem Inv.call{g':Array GenState}{t':Nat}{d':Drawn}{ch:List Addr}(I:Inv X pins σ H s)(u:Un (frs X.stack) ch H H' s.heap h')(hok:HOk X.prog X.w H' h')(hg:AllBare g')
 (hch:∀b∈ch,(b∈X.ex\/X.s₀.heap.objs.size<=b)/\b≠X.env.locals/\(∀x c,X.env.cells.lookup x=some c->c≠b)/\∀p∈X.pn++pins,p.1≠b):
 Inv X pins σ H' { s with heap:=h',gens:=g',drawn:=d',toks:=t' }:=by
 obtain⟨m,⟨o,es,ep,ho,r⟩,_⟩:=id I.loc;obtain⟨sl,hL⟩:=u.any ho I.free fun z=>(hch _ z).2.1 rfl
 exact I.step (ch:=ch) hch (fun b o hL hb hc e n=>u.keep b o e n (fun z=>(List.mem_cons.mp (I.stkSub b z)).elim hL hb) hc) (fun b o _ _ hc e n=>u.any e n hc) (fun b o hc e n=>u.free b o e n hc) (fun b o hc e=>u.there b o e hc) u.tups u.frzs u.tbls (fun m' hm=>by
  obtain⟨o',es',ep',ho',r'⟩:=hm;rw[ho]at ho';cases ho';exact⟨_,es',ep',hL,r'⟩) hok hg
theorem Inv.turned{t':Nat}{it:Addr}(I:Inv X pins σ H s)(k:∀b o,b≠it->s.heap.get? b=some o->h'.get? b=some o)(hn:H it=none)(hL:it≠X.env.locals)
 (h1:it∈X.ex\/X.s₀.heap.objs.size<=it) (h2:∀x c,X.env.cells.lookup x=some c->c≠it) (h3:∀p∈X.pn++pins,p.1≠it):Inv X pins σ H { s with heap:=h',toks:=t' }:=by
 have nit:∀b u,H b=some u->b≠it:=fun b u e z=>by rw[z,hn]at e;cases e
 refine I.step (g':=s.gens) (d':=s.drawn) (ch:=[it]) (fun b hb=>?_) (fun b o _ _ hc e _=>k b o (fun z=>hc (by simp[z])) e) (fun b o _ _ hc e _=>⟨o.slots,k b o (fun z=>hc (by simp[z])) e⟩) (fun _ _ _ _ n=>n)
  (fun b o hc e=>⟨o,k b o (fun z=>hc (by simp[z])) e⟩) (fun _ _ e=>e) (fun _ _ _ e=>e) (fun b ps e=>⟨#[],by rw[e];simp⟩) (fun m hm=>?_) (fun b u e=>?_) I.bare
 .have e:b=it:=by simpa using hb
  subst e;exact⟨h1,hL,h2,h3⟩
 .obtain⟨o,es,ep,ho,r⟩:=hm;exact⟨o,es,ep,k _ o (F4 hL) ho,r⟩
 .refine(I.hok b u e).stay (fun c v hc q=>k c v ?_ q) (fun _ q=>q) fun _ _ q=>q;rcases hc with z|z
  .rw[z];exact nit b u e
  .exact nit c _ z
theorem Inv.tok(I:Inv X pins σ H s)(t:Nat):Inv X pins σ H { s with toks:=t }:=I.un (h':=s.heap) (t':=t) Un.refl I.hok
theorem Inv.kept{t':Nat}(I:Inv X pins σ H s)(k:∀b u,s.heap.get? b=some u->h'.get? b=some u):Inv X pins σ H { s with heap:=h',toks:=t' }:=I.un (Un.kept k) (I.hok.kept k)
theorem Inv.laid{a:Addr}{o:HO}{t':Nat}(I:Inv X pins σ H s)(k:∀b u,s.heap.get? b=some u->h'.get? b=some u)(hp:s.heap.objs.size<=a)(new:dM X.prog X.w (upd H a o) h' a o):
 Inv X pins σ (upd H a o) { s with heap:=h',toks:=t' }:=I.un (Un.laid k hp (I.hok.fresh hp)) (I.hok.laid k hp new)
theorem Inv.write{x e:Addr}{o:HO}{t':Nat}(I:Inv X pins σ H s)(mu:Mut (H x))(he:e=x\/H e=some (.own x))(k:∀b u,b≠e->s.heap.get? b=some u->h'.get? b=some u)(heo:∃u,h'.get? e=some u)
 (new:dM X.prog X.w (upd H x o) h' x o):Inv X pins σ (upd H x o) { s with heap:=h',toks:=t' }:=I.un (Un.write mu he k heo) (I.hok.write mu he k heo new)
theorem Inv.pins_of{pins':List (Addr×Obj)}(I:Inv X pins σ H s)(h:∀p∈pins',s.heap.get? p.1=some p.2/\H p.1=none/\p.1≠X.env.locals/\p.1∉X.fs/\∀v,p.2.data≠.cell v):Inv X pins' σ H s:=
 ⟨I.ok,I.os,I.bare,I.base,I.loc,I.cell,I.free,I.freeC,fun p hp=>(List.mem_append.mp hp).elim (fun z=>I.pin p (F0 _ z)) (h p),I.hok,I.len⟩
theorem CA{N:List Str}(hN:N.Nodup){i j:Nat}{x:Str}(a:N[i]?=some x)(b:N[j]?=some x):i=j:=by
 obtain⟨h1,e1⟩:=List.getElem?_eq_some_iff.mp a;obtain⟨h2,e2⟩:=List.getElem?_eq_some_iff.mp b;exact(List.getElem_inj hN).mp (e1.trans e2.symm)
theorem GG{M:Model}{A:Around}{E:Value->Shared->Prop}{i:Nat}{x:Str}{v:V}{u:Value}{Q:Unit->Shared->Prop}(I:Inv X pins σ H s)(hN:X.N.Nodup)(hi:X.N[i]?=some x)(hx:Loc X.env.scope x)(r:RelV v u)
 (h:∀s',Inv X pins (σ.set i (some v)) H s'->(∃a,Heap.SameBut a s.heap s'.heap/\(a=X.env.locals\/X.env.cells.lookup x=some a))->Q () s') (hf:X.fn x=true\/X.env.scope.names.lookup x=some .local:=by first|exact .inl rfl|exact .inr rfl|assumption):wpAny M A (storeName X.env x u) Q E s:=by
 obtain⟨m,hn,hl⟩:=id I.loc;have hcls:(X.env.scope.kind==.class || (X.env.scope.kind==.module&&X.env.locals != X.env.globals))=false:=by rw[I.ok.kind];rfl
 have hiσ:i<σ.length:=by rw[I.len];exact(List.getElem?_eq_some_iff.mp hi).1
 have cne:=I.cne
 have tracked:∀{a:Addr}{h':Heap},(∃o,s.heap.get? a=some o/\H a=none)->Heap.SameBut a s.heap h'->HOk X.prog X.w H h':=fun{a h'} ha hs b ob e=>by
  obtain⟨_,_,hfree⟩:=ha;refine(I.hok b ob e).stay (fun c w' hc q=>(hs.2 c ?_).trans q) (fun _ q=>q) fun _ _ q=>q;rintro rfl;rcases hc with rfl|hc
  .rw[hfree]at e;cases e
  .rw[hfree]at hc;cases hc
 rcases hx with hk|hk
 .refine wpAny_storeName_local hk hn (fun h' hn' hs=>?_) hcls;obtain⟨oL,_,_,hoL,_⟩:=id hn;refine h _ ⟨I.ok,I.os,I.bare,⟨fun b o e n hb hx=>?_,fun b o e n hb hx=>?_,I.base.free,fun b o e hx=>?_,I.base.tups,I.base.frzs,I.base.tbls⟩,⟨_,hn',fun j y v' e1 e2 e3=>?_⟩,fun y c e=>?_,I.free,I.freeC,fun p hp=>?_,tracked ⟨oL,hoL,I.free⟩ hs,by simpa using I.len⟩ ⟨_,hs,.inl rfl⟩
  .exact(hs.2 b (B6 (B8 (B0 e) I.ok.above))).trans (I.base.keep b o e n hb hx)
  .obtain⟨sl,e1⟩:=I.base.slot b o e n hb hx;exact⟨sl,(hs.2 b (B6 (B8 (B0 e) I.ok.above))).trans e1⟩
  .obtain⟨o',e1⟩:=I.base.there b o e hx;exact⟨o',(hs.2 b (B6 (B8 (B0 e) I.ok.above))).trans e1⟩
  .by_cases hj:j=i
   .subst hj;rw[hi]at e1;cases e1;rw[E3 hiσ]at e2;cases e2;exact⟨u,r,.inl ⟨hk,by simp⟩⟩
   .rw[D4 (F4 hj)]at e2;obtain⟨u',r',q⟩:=hl j y v' e1 e2 e3;refine⟨u',r',?_⟩;rcases q with⟨k,e⟩|⟨k,c,e,z⟩
    .refine .inl ⟨k,?_⟩;have:y≠x:=fun e=>hj (CA hN e1 (e▸hi));simp[this,e]
    .exact .inr ⟨k,c,e,z.sameBut hs (cne y c e)⟩
  .obtain⟨w',z⟩:=I.cell y c e;exact⟨w',z.sameBut hs (cne y c e)⟩
  .obtain⟨e,n,ne,nf,d⟩:=I.pin p hp;exact⟨(hs.2 p.1 ne).trans e,n,ne,nf,d⟩
 .have hfn:X.fn x=true:=by
   rcases hf with z|z
   .exact z
   .rw[z]at hk;cases hk
  obtain⟨c,hc⟩:=I.ok.has x (.inl hk);obtain⟨w',z⟩:=I.cell x c hc;refine wpAny_storeName_cell I.ok.kind hk hc z (fun h' hc' hs=>?_);obtain⟨oc,hoc,hocd⟩:=id z;refine h { s with heap:=h' } ⟨I.ok,I.os,I.bare,⟨fun b o e n hb hx=>?_,fun b o e n hb hx=>?_,I.base.free,fun b o e hx=>?_,I.base.tups,I.base.frzs,I.base.tbls⟩,⟨m,hn.sameBut hs (F4 (cne x c hc)),fun j y v' e1 e2 e3=>?_⟩,fun y c' e=>?_,I.free,I.freeC,fun p hp=>?_,tracked ⟨oc,hoc,I.freeC x c hc⟩ hs,by simpa using I.len⟩ ⟨c,hs,.inr hc⟩
  .exact(hs.2 b (B6 (B8 (B0 e) (I.ok.cab x c hfn hc)))).trans (I.base.keep b o e n hb hx)
  .obtain⟨sl,e1⟩:=I.base.slot b o e n hb hx;exact⟨sl,(hs.2 b (B6 (B8 (B0 e) (I.ok.cab x c hfn hc)))).trans e1⟩
  .obtain⟨o',e1⟩:=I.base.there b o e hx;exact⟨o',(hs.2 b (B6 (B8 (B0 e) (I.ok.cab x c hfn hc)))).trans e1⟩
  .by_cases hj:j=i
   .subst hj;rw[hi]at e1;cases e1;rw[E3 hiσ]at e2;cases e2;exact⟨u,r,.inr ⟨.inl hk,c,hc,hc'⟩⟩
   .rw[D4 (F4 hj)]at e2;obtain⟨u',r',q⟩:=hl j y v' e1 e2 e3;refine⟨u',r',?_⟩;rcases q with q|⟨k,c',e,z'⟩
    .exact .inl q
    .refine .inr ⟨k,c',e,z'.sameBut hs ?_⟩;rintro rfl;exact hj (CA hN e1 (I.ok.inj _ _ _ e hc▸hi))
  .by_cases hcc:c'=c
   .subst hcc;exact⟨_,hc'⟩
   .obtain⟨w2,z2⟩:=I.cell y c' e;exact⟨w2,z2.sameBut hs hcc⟩
  .obtain⟨e,n,ne,nf,d⟩:=I.pin p hp;refine⟨(hs.2 p.1 ?_).trans e,n,ne,nf,d⟩;intro q;rw[q,hoc]at e;have q':oc=p.2:=D2 e;exact d w' (by rw[<- q'];exact hocd)
theorem rW{M:Model}{A:Around}{E:Value->Shared->Prop}{i:Nat}{x:Str}{v:V}{u:Value}{Q:Unit->Shared->Prop}(I:Inv X pins σ H s)(hN:X.N.Nodup)(hi:X.N[i]?=some x)(hx:Loc X.env.scope x)(r:RelV v u)
 (h:∀s',Inv X pins (σ.set i (some v)) H s'->Q () s') (hf:X.fn x=true\/X.env.scope.names.lookup x=some .local:=by first|exact .inl rfl|exact .inr rfl|assumption):wpAny M A (storeName X.env x u) Q E s:=
 GG I hN hi hx r (fun s' I' _=>h s' I') hf
theorem Inv.call'{s':Shared}{ch:List Addr}(I:Inv X pins σ H s)(ho:s'.os=s.os)(u:Un (frs X.stack) ch H H' s.heap s'.heap)(hok:HOk X.prog X.w H' s'.heap)(hg:AllBare s'.gens)
 (hch:∀b∈ch,(b∈X.ex\/X.s₀.heap.objs.size<=b)/\b≠X.env.locals/\(∀x c,X.env.cells.lookup x=some c->c≠b)/\∀p∈X.pn++pins,p.1≠b):Inv X pins σ H' s':=by
 obtain⟨h',g',d',t',o'⟩:=s';have e:o'=s.os:=ho;subst e;exact I.call (g':=g') (t':=t') (d':=d') u hok hg hch
end
noncomputable abbrev XK:=Value->Option Addr->Hp->Prop
noncomputable abbrev St:=List (Option V)
abbrev VK:=V->Hp->Prop
noncomputable abbrev TE:=St->Hp->VK->Prop
noncomputable abbrev TT:=St->Hp->(Bool->Hp->Prop)->Prop
noncomputable abbrev TA:=St->Hp->(List V->Hp->Prop)->Prop
structure Ends where
 nx:St->Hp->Prop
 rt:VK
 bk:St->Hp->Prop:=fun _ _=>False
 ct:St->Hp->Prop:=fun _ _=>False
noncomputable abbrev TS:=Ends->St->Hp->Prop
noncomputable def EP(X:Cx)(pins:List (Addr×Obj))(σ:St)(Q:VK)(u:Value)(s':Shared):Prop:=∃v H',Inv X pins σ H' s'/\RelV v u/\Q v H'
noncomputable def TP(X:Cx)(pins:List (Addr×Obj))(σ:St)(Q:Bool->Hp->Prop)(b:Bool)(s':Shared):Prop:=∃H',Inv X pins σ H' s'/\Q b H'
noncomputable def AP(X:Cx)(pins:List (Addr×Obj))(σ:St)(Q:List V->Hp->Prop)(us:List Value)(s':Shared):Prop:=∃vs H',Inv X pins σ H' s'/\bK vs us/\Q vs H'
noncomputable def SP(X:Cx)(pins:List (Addr×Obj))(D:Ends)(f:Flow)(s':Shared):Prop:=
 match f with
 |.next=>∃σ' H',Inv X pins σ' H' s'/\D.nx σ' H'
 |.brk=>∃σ' H',Inv X pins σ' H' s'/\D.bk σ' H'
 |.cont=>∃σ' H',Inv X pins σ' H' s'/\D.ct σ' H'
 |.ret u=>∃v σ' H',Inv X pins σ' H' s'/\RelV v u/\D.rt v H'
noncomputable def PE(X:Cx)(e:Expr)(t:TE):Prop:=
 ∀(pins:List (Addr×Obj))(s:Shared)(σ:St)(H:Hp)(Q:VK),Inv X pins σ H s->t σ H Q->wpAny (model X.prog X.w) X.A (eval e X.env) (EP X pins σ Q) X.xe s
noncomputable def PT(X:Cx)(e:Expr)(t:TT):Prop:=
 ∀(pins:List (Addr×Obj))(s:Shared)(σ:St)(H:Hp)(Q:Bool->Hp->Prop),Inv X pins σ H s->t σ H Q->wpAny (model X.prog X.w) X.A (isTrue e X.env (eval e X.env)) (TP X pins σ Q) X.xe s
noncomputable def PW(X:Cx)(e:Expr)(t:TT):Prop:=
 ∀(whole:Sem Value)(pins:List (Addr×Obj))(s:Shared)(σ:St)(H:Hp)(Q:Bool->Hp->Prop),Inv X pins σ H s->t σ H Q->wpAny (model X.prog X.w) X.A (isTrue e X.env whole) (TP X pins σ Q) X.xe s
theorem PW.pt{X:Cx}{e:Expr}{t:TT}(h:PW X e t):PT X e t:=h _
noncomputable def PA(X:Cx)(es:List Expr)(t:TA):Prop:=
 ∀(pos:Pos)(pins:List (Addr×Obj))(s:Shared)(σ:St)(H:Hp)(Q:List V->Hp->Prop),Inv X pins σ H s->t σ H Q->wpAny (model X.prog X.w) X.A (spliced (backTo pos (starEach es X.env))) (AP X pins σ Q) X.xe s
noncomputable def PS(X:Cx)(st:Stmt)(t:TS):Prop:=
 ∀(pins:List (Addr×Obj))(s:Shared)(σ:St)(H:Hp)(D:Ends),Inv X pins σ H s->t D σ H->wpAny (model X.prog X.w) X.A (exec st X.env) (SP X pins D) X.xe s
noncomputable def PSs(X:Cx)(st:List Stmt)(t:TS):Prop:=
 ∀(pins:List (Addr×Obj))(s:Shared)(σ:St)(H:Hp)(D:Ends),Inv X pins σ H s->t D σ H->wpAny (model X.prog X.w) X.A (execs st X.env) (SP X pins D) X.xe s
theorem thn{α:Type}{t:Sem α}{Q Q':α->Shared->Prop}{M:Model}{E:Value->Shared->Prop}{s:Shared}(h:wpAny M A t Q E s)(hQ:∀a s,Q a s->Q' a s):wpAny M A t Q' E s:=D8 h hQ fun _ _ x=>x
section
variable{X:Cx}
theorem bin{a b:Expr}{ta tb:TE}(ha:PE X a ta)(hb:PE X b tb){pins:List (Addr×Obj)}{R:V->V->Hp->Prop}(I:Inv X pins σ H s)(h:ta σ H fun x H1=>tb σ H1 fun y H2=>R x y H2)
 {α:Type} {Q:α->Shared->Prop} {f:Value->Value->Sem α}
 (hf:∀v u s2 x y H2,Inv X pins σ H2 s2->RelV x v->RelV y u->R x y H2->wpAny (model X.prog X.w) X.A (f v u) Q X.xe s2):
 wpAny (model X.prog X.w) X.A (eval a X.env) (fun v s₁=>wpAny (model X.prog X.w) X.A (eval b X.env) (fun u s₂=>wpAny (model X.prog X.w) X.A (f v u) Q X.xe s₂) X.xe s₁) X.xe s:=by
 refine thn (ha pins s σ H _ I h) fun v s1 ⟨x,H1,I1,r1,q1⟩=>?_;refine thn (hb pins s1 σ H1 _ I1 q1) fun u s2 ⟨y,H2,I2,r2,q2⟩=>?_;exact hf v u s2 x y H2 I2 r1 r2 q2
noncomputable def aKb(i:Nat):TE:=fun σ H Q=>∃v,σ[i]?=some (some v)/\Q v H
noncomputable def tC(v:V):TE:=fun _ H Q=>Q v H
theorem aHy{i:Nat}{x:Str}(hN:X.N[i]?=some x)(hv:Vis X.env.scope x)(hd:(x==("__debug__":Str))=false:=by decide)(hcd:(x==("__classdict__":Str))=false:=by decide):PE X (.Name x pos) (aKb i):=by
 sleep 10;obtain⟨v,e,h⟩:=h;obtain⟨m,hn,hl⟩:=I.loc;obtain⟨u,r,l⟩:=hl i x v hN e hv;have fin:EP X pins σ Q u s:=⟨v,H,I,r,h⟩;rcases l with⟨hk,hm⟩|⟨hk,c,hc,hcell⟩
 .exact wpAny_Name (wpAny_loadName_local I.ok.kind hk hn hm fin) hd
 .rcases hk with hk|hk
  .exact wpAny_Name (wpAny_loadName_cell I.ok.kind hk hc hcell fin) hd
  .exact wpAny_Name (wpAny_loadName_free I.ok.kind hk hc hcell fin hcd) hd
theorem aHg{i j pos}:PE X (.Constant (.int i) j pos) (tC (.int i)):=fun _ _ _ H _ I h=>wpAny_Constant_int ⟨.int i,H,I.tok _,⟨_,rfl⟩,h⟩
theorem aJG{b j pos}:PE X (.Constant (.bool b) j pos) (tC (.bl b)):=fun _ _ _ H _ I h=>Constant_bool ⟨.bl b,H,I,rfl,h⟩
theorem aIF{j pos}:PE X (.Constant .none j pos) (tC .non):=fun _ _ _ H _ I h=>Constant_none ⟨.non,H,I,rfl,h⟩
theorem aGP{x j pos}:PE X (.Constant (.str x) j pos) (tC (.str x)):=fun _ _ _ H _ I h=>Calls.Constant_str ⟨.str x,H,I.tok _,⟨_,rfl⟩,h⟩
noncomputable def Gl(X:Cx)(x:Str):Prop:=X.env.kindOf x=some .globalImplicit
theorem mM{E:Value->Shared->Prop}{pins:List (Addr×Obj)}{x:Str}{u:Value}{pos:Pos}{Q:Value->Shared->Prop}(I:Inv X pins σ H s)(hg:Gl X x)(hm:X.mg x=some u)(h:Q u s)
 (hd:(x==("__debug__":Str))=false:=by decide):wpAny (model X.prog X.w) X.A (eval (.Name x pos) X.env) Q E s:=
 Calls.Name_function_global I.ok.kind hg (Calls.loadGlobal_global (by rw[I.ok.glob];exact I.mod.glob.keeps I.bk) hm h) hd
theorem wA{E:Value->Shared->Prop}{pins:List (Addr×Obj)}{x:Str}{u:Value}{pos:Pos}{Q:Value->Shared->Prop}(I:Inv X pins σ H s)(hg:Gl X x)(hm:X.mg x=none)(hv:bootBuiltins x=some u)(h:Q u s)
 (hn:x≠"__name__":=by decide) (hd:(x==("__debug__":Str))=false:=by decide):wpAny (model X.prog X.w) X.A (eval (.Name x pos) X.env) Q E s:=by
 obtain⟨mb,h1,h2⟩:=I.mod.blt;exact Calls.Name_function_global I.ok.kind hg (Calls.loadGlobal_builtin (by rw[I.ok.glob];exact I.mod.glob.keeps I.bk) hm (by rw[I.ok.blt];exact h1.keeps I.bk) ((h2 x hn).trans hv) h) hd
theorem TM{x:Str}{v:V}{u:Value}(hg:Gl X x)(hm:X.mg x=some u)(r:RelV v u)(hd:(x==("__debug__":Str))=false:=by decide):PE X (.Name x pos) (tC v):=
 fun _ _ _ H _ I h=>mM I hg hm ⟨v,H,I,r,h⟩ hd
theorem xP{x:Str}{v:V}{u:Value}(hg:Gl X x)(hm:X.mg x=none)(hv:bootBuiltins x=some u)(r:RelV v u)(hn:x≠"__name__":=by decide)(hd:(x==("__debug__":Str))=false:=by decide):PE X (.Name x pos) (tC v):=
 fun _ _ _ H _ I h=>wA I hg hm hv ⟨v,H,I,r,h⟩ hn hd
variable{a b:Expr}{ta tb:TE}{pos:Pos}
noncomputable def PC(X:Cx)(op:CmpOp)(a b:Expr)(t:TE):Prop:=
 ∀(pins:List (Addr×Obj))(s:Shared)(σ:St)(H:Hp)(Q:VK),Inv X pins σ H s->t σ H Q->
  wpAny (model X.prog X.w) X.A (eval a X.env) (fun v s₁=>wpAny (model X.prog X.w) X.A (eval b X.env) (fun u s₂=>wpAny (model X.prog X.w) X.A (compareOp op v u) (EP X pins σ Q) X.xe s₂) X.xe s₁) X.xe s
theorem ZP(b:Expr){op:CmpOp}(h:op≠.In)(h2:op≠.NotIn):behindInMarks op b=false:=by
 have e1:(op==CmpOp.In)=false:=by cases op<;>first|rfl|exact absurd rfl h
 have e2:(op==CmpOp.NotIn)=false:=by cases op<;>first|rfl|exact absurd rfl h2
 cases b<;>simp[behindInMarks,e1,e2]
noncomputable def tB(t:TE):TT:=fun σ H Q=>t σ H fun x H1=>∃c,x=.bl c/\Q c H1
theorem aGV{op:CmpOp}{t:TE}(h:PC X op a b t)(h1:behindInMarks op b=false:=by first|exact ZP _ (by decide) (by decide)|rfl):PT X (.Compare a [op] [b] pos) (tB t):=by
 intro pins s σ H Q I hw;refine wpAny_isTrue_Compare1 (thn (h pins s σ H _ I hw) fun v s1 h1=>thn h1 fun u s2 h2=>thn h2 fun c s3 ⟨x,H1,I1,r1,q1⟩=>?_) h1;obtain⟨d,rfl,q⟩:=q1;cases r1;exact I0 ⟨H1,I1,q⟩
theorem aGt{e:Expr}{t:TE}(h:PE X e t)(he:∀whole,isTrue e X.env whole=(do let v <- whole;standAt e.pos;holding [v] (truthy v)):=by intro _;rfl):PT X e (tB t):=by
 intro pins s σ H Q I hw;refine isTrue_plain (thn (h pins s σ H _ I hw) fun v s1 ⟨x,H1,I1,r1,q1⟩=>?_) (he _);obtain⟨d,rfl,q⟩:=q1;cases r1;exact I0 ⟨H1,I1,q⟩
variable{tA tB':TT}{rest:List Expr}
noncomputable def aJW(t u:TT):TT:=fun σ H Q=>t σ H fun c H1=>if c=true then u σ H1 Q else Q false H1
noncomputable def tOr(t u:TT):TT:=fun σ H Q=>t σ H fun c H1=>if c=true then Q true H1 else u σ H1 Q
noncomputable def aKh(t:TT):TT:=fun σ H Q=>t σ H fun c H1=>Q (!c) H1
theorem aEx(ha:PT X a tA):PW X (.BoolOp .And [a] pos) tA:=by
 intro wh pins s σ H Q I h;refine isTrue_and (thn (ha pins s σ H Q I h) fun c s1 e=>?_);cases c with
 |true=>exact isTrue_and_nil e
 |false=>exact e
theorem aGZ(ha:PT X a tA):PW X (.BoolOp .Or [a] pos) tA:=by
 intro wh pins s σ H Q I h;refine isTrue_or (thn (ha pins s σ H Q I h) fun c s1 e=>?_);cases c with
 |false=>exact isTrue_or_nil e
 |true=>exact e
theorem aHs(ha:PT X a tA)(hb:PW X (.BoolOp .And (b::rest) pos) tB'):PW X (.BoolOp .And (a::b::rest) pos) (aJW tA tB'):=by
 intro wh pins s σ H Q I h;refine isTrue_and (thn (ha pins s σ H _ I h) fun c s1 ⟨H1,I1,q1⟩=>?_);cases c with
 |true=>exact hb wh pins s1 σ H1 Q I1 q1
 |false=>exact⟨H1,I1,q1⟩
theorem aJu(ha:PT X a tA)(hb:PW X (.BoolOp .Or (b::rest) pos) tB'):PW X (.BoolOp .Or (a::b::rest) pos) (tOr tA tB'):=by
 intro wh pins s σ H Q I h;refine isTrue_or (thn (ha pins s σ H _ I h) fun c s1 ⟨H1,I1,q1⟩=>?_);cases c with
 |true=>exact⟨H1,I1,q1⟩
 |false=>exact hb wh pins s1 σ H1 Q I1 q1
theorem aGk(ha:PT X a tA):PT X (.UnaryOp .Not a pos) (aKh tA):=by
 sleep 10;exact isTrue_not (ha pins s σ H (fun c H1=>Q (!c) H1) I h)
noncomputable def aFF(ta tb:TE):TE:=fun σ H Q=>ta σ H fun x H1=>∃c,x=.bl c/\if c=true then tb σ H1 Q else Q (.bl false) H1
noncomputable def aJI(ta tb:TE):TE:=fun σ H Q=>ta σ H fun x H1=>∃c,x=.bl c/\if c=true then Q (.bl true) H1 else tb σ H1 Q
noncomputable def aEZ(ta:TE):TE:=fun σ H Q=>ta σ H fun x H1=>∃c,x=.bl c/\Q (.bl (!c)) H1
theorem aGG{op}{t:TE}(h:PE X a t):PE X (.BoolOp op [a] pos) t:=fun pins s σ H Q I hw=>BoolOp_one (h pins s σ H Q I hw)
theorem aHu(ha:PE X a ta)(hb:PE X (.BoolOp .And (b::rest) pos) tb):PE X (.BoolOp .And (a::b::rest) pos) (aFF ta tb):=by
 sleep 10;refine BoolOp_and (thn (ha pins s σ H _ I h) fun v s1 ⟨x,H1,I1,r1,q1⟩=>?_);obtain⟨c,rfl,q1⟩:=q1;cases r1;refine I0 ?_;cases c with
 |true=>exact hb pins s1 σ H1 Q I1 q1
 |false=>exact⟨.bl false,H1,I1,rfl,q1⟩
theorem aJd(ha:PE X a ta)(hb:PE X (.BoolOp .Or (b::rest) pos) tb):PE X (.BoolOp .Or (a::b::rest) pos) (aJI ta tb):=by
 sleep 10;refine BoolOp_or (thn (ha pins s σ H _ I h) fun v s1 ⟨x,H1,I1,r1,q1⟩=>?_);obtain⟨c,rfl,q1⟩:=q1;cases r1;refine I0 ?_;cases c with
 |false=>exact hb pins s1 σ H1 Q I1 q1
 |true=>exact⟨.bl true,H1,I1,rfl,q1⟩
theorem aGx(ha:PE X a ta):PE X (.UnaryOp .Not a pos) (aEZ ta):=by
 sleep 10;refine UnaryOp_ (thn (ha pins s σ H _ I h) fun v s1 ⟨x,H1,I1,r1,q1⟩=>?_);obtain⟨c,rfl,q1⟩:=q1;cases r1;exact not_of (I0 ⟨.bl (!c),H1,I1,rfl,q1⟩)
noncomputable def tIf(t:TT)(ta tb:TE):TE:=fun σ H Q=>t σ H fun c H1=>if c=true then ta σ H1 Q else tb σ H1 Q
theorem OA{c:Expr}(hc:PT X c tA)(ha:PE X a ta)(hb:PE X b tb):PE X (.IfExp c a b pos) (tIf tA ta tb):=by
 sleep 10;refine wpAny_IfExp (thn (hc pins s σ H _ I h) fun d s1 ⟨H1,I1,q1⟩=>?_);cases d with
 |true=>exact ha pins s1 σ H1 Q I1 q1
 |false=>exact hb pins s1 σ H1 Q I1 q1
end
noncomputable def SqL(K:Fg)(H:Hp)(a:Addr)(xs:List V):Prop:=
 Rd H a (.lst xs) \/
  ∃(o:Obj)(its:Array Value)(n:Nat),K.lookup a=some o/\o.cls=.type "list"/\o.dict=none/\o.data=.seq its n/\its.size<=sizeLine/\bK xs its.toList
noncomputable def SqT(K:Fg)(H:Hp)(a:Addr)(xs:List V):Prop:=
 Rd H a (.tup xs) \/
  ∃(o:Obj)(its:Array Value)(n:Nat),K.lookup a=some o/\o.cls=.type "tuple"/\o.data=.seq its n/\its.size<=sizeLine/\bK xs its.toList
noncomputable def aKr:Value->Option V
 |.none=>some .non
 |.bool b=>some (.bl b)
 |.int i _=>some (.int i)
 |.str x _=>some (.str x)
 |.bytes b _=>some (.byt b)
 |.float b _=>some (.flt b)
 |.ref a=>some (.ref a)
 |.type n=>some (.ty n)
 |_=>none
theorem RelV.abs{x:V}{u:Value}(r:RelV x u):aKr u=some x:=by
 cases x with
 |non=>cases r;rfl
 |bl _=>cases r;rfl
 |int _=>obtain⟨t,rfl⟩:=r;rfl
 |str _=>obtain⟨t,rfl⟩:=r;rfl
 |byt _=>obtain⟨t,rfl⟩:=r;rfl
 |flt _=>obtain⟨t,rfl⟩:=r;rfl
 |ref _=>cases r;rfl
 |ty _=>cases r;rfl
theorem RelV.inj{x y:V}{u:Value}(r:RelV x u)(q:RelV y u):x=y:=D2 (r.abs.symm.trans q.abs)
theorem bK.inj:∀{xs ys:List V}{us:List Value},bK xs us->bK ys us->xs=ys
 |_,_,_,.nil,.nil=>rfl
 |_,_,_,.cons r t,.cons r' t'=>by rw[r.inj r',bK.inj t t']
section
variable{X:Cx}{pins:List (Addr×Obj)}{σ:St}{H:Hp}{s:Shared}{a:Addr}{xs ys:List V}
theorem SqL.of(h:H a=some (.lst xs)):SqL K H a xs:=.inl (.inl h)
theorem SqT.of(h:H a=some (.tup xs)):SqT K H a xs:=.inl (.inl h)
theorem Inv.list(I:Inv X pins σ H s)(h:SqL X.K H a xs):∃its:List Value,bK xs its/\PlainL s.heap a its.toArray/\xs.length<=sizeLine:=by
 rcases h with h|⟨o,its,n,hk,hc,hd,hs,hz,r⟩
 .obtain⟨z,its,n,r,e⟩:=h.ok I.hok;exact⟨its,r,⟨_,n,e,rfl,rfl,rfl⟩,z⟩
 .refine⟨its.toList,r,⟨o,n,I.kIn a o hk,hc,hd,by simpa using hs⟩,?_⟩;have e:=r.length;simp only[Array.length_toList]at e;omega
theorem Inv.tuple(I:Inv X pins σ H s)(h:SqT X.K H a xs):∃its:List Value,bK xs its/\IsTup s.heap a its.toArray/\xs.length<=sizeLine:=by
 rcases h with h|⟨o,its,n,hk,hc,hs,hz,r⟩
 .obtain⟨z,its,r,p⟩:=h.ok I.hok;exact⟨its,r,p,z⟩
 .refine⟨its.toList,r,⟨o,I.kIn a o hk,hc,n,by simpa using hs⟩,?_⟩;have e:=r.length;simp only[Array.length_toList]at e;omega
theorem Inv.list_inj(I:Inv X pins σ H s)(h:SqL X.K H a xs)(h':SqL X.K H a ys):xs=ys:=by
 obtain⟨its,r,⟨o,n,e,_,_,d⟩,_⟩:=I.list h;obtain⟨its',r',⟨o',n',e',_,_,d'⟩,_⟩:=I.list h';rw[e]at e';cases e';rw[d]at d';injection d' with d1 _
 have:its=its':=by simpa using O2 Array.toList d1
 subst this;exact r.inj r'
theorem Inv.tuple_inj(I:Inv X pins σ H s)(h:SqT X.K H a xs)(h':SqT X.K H a ys):xs=ys:=by
 obtain⟨its,r,⟨o,e,_,n,d⟩,_⟩:=I.tuple h;obtain⟨its',r',⟨o',e',_,n',d'⟩,_⟩:=I.tuple h';rw[e]at e';cases e';rw[d]at d';injection d' with d1 _
 have:its=its':=by simpa using O2 Array.toList d1
 subst this;exact r.inj r'
end
noncomputable abbrev Cx.wish(X:Cx)(E:Value->Shared->Prop):Cx:={ X with xe:=E }
noncomputable abbrev Cx.nox(X:Cx):Cx:=X.wish fun _ _=>False
theorem Cx.Ok.wish{X:Cx}(ok:X.Ok)(E:Value->Shared->Prop):(X.wish E).Ok:=
 ⟨ok.mod,ok.kind,ok.glob,ok.blt,ok.above,ok.inj,ok.has,ok.cab,ok.hd,ok.frames,ok.stk,ok.exf,ok.bs,ok.bsz,ok.noex,ok.exfs,ok.funs,ok.frf⟩
theorem Cx.Ok.unwish{X:Cx}{E:Value->Shared->Prop}(ok:(X.wish E).Ok):X.Ok:=
 ⟨ok.mod,ok.kind,ok.glob,ok.blt,ok.above,ok.inj,ok.has,ok.cab,ok.hd,ok.frames,ok.stk,ok.exf,ok.bs,ok.bsz,ok.noex,ok.exfs,ok.funs,ok.frf⟩
section
variable{X:Cx}{pins:List (Addr×Obj)}{σ:St}{H:Hp}{s:Shared}{E:Value->Shared->Prop}
theorem Inv.wish(I:Inv X pins σ H s)(E:Value->Shared->Prop):Inv (X.wish E) pins σ H s:=⟨I.ok.wish E,I.os,I.bare,I.base,I.loc,I.cell,I.free,I.freeC,I.pin,I.hok,I.len⟩
theorem Inv.unwish(I:Inv (X.wish E) pins σ H s):Inv X pins σ H s:=⟨I.ok.unwish,I.os,I.bare,I.base,I.loc,I.cell,I.free,I.freeC,I.pin,I.hok,I.len⟩
theorem SP.unwish{D:Ends}{f:Flow}{s':Shared}(h:SP (X.wish E) pins D f s'):SP X pins D f s':=by
 cases f with
 |next=>obtain⟨σ',H',I,q⟩:=h;exact⟨σ',H',I.unwish,q⟩
 |brk=>obtain⟨σ',H',I,q⟩:=h;exact⟨σ',H',I.unwish,q⟩
 |cont=>obtain⟨σ',H',I,q⟩:=h;exact⟨σ',H',I.unwish,q⟩
 |ret u=>obtain⟨v,σ',H',I,r,q⟩:=h;exact⟨v,σ',H',I.unwish,r,q⟩
theorem PSs.nox{st:List Stmt}{t:TS}(h:PSs X.nox st t):PSs X st t:=fun pins s σ H D I hw=>
 D8 (h pins s σ H D (I.wish _) hw) (fun _ _ q=>q.unwish) fun _ _ z=>False.elim z
end
section
variable{X:Cx}{st:Stmt}{rest:List Stmt}{t u:TS}{e:Expr}{te:TE}{pos:Pos}
noncomputable def aFl:TS:=fun D σ H=>D.nx σ H
noncomputable def aHr(t u:TS):TS:=fun D σ H=>t { D with nx:=u D } σ H
theorem aEC:PSs X [] aFl:=fun _ _ σ H _ I h=>Z3 ⟨σ,H,I,h⟩
theorem OQ(h1:PS X st t)(h2:PSs X rest u):PSs X (st::rest) (aHr t u):=by
 sleep 19;refine wpAny_execs_cons (thn (h1 pins s σ H { D with nx:=u D } I h) fun f s1 q=>?_);cases f with
 |next=>
  obtain⟨σ',H',I',q⟩:=q;exact h2 pins s1 σ' H' D I' q
 |ret v=>exact q
 |brk=>exact q
 |cont=>exact q
theorem SW(h1:PS X st t):PSs X [st] t:=by
 sleep 19;refine wpAny_execs_cons (thn (h1 pins s σ H D I h) fun f s1 q=>?_);cases f with
 |next=>exact Z3 q
 |ret v=>exact q
 |brk=>exact q
 |cont=>exact q
theorem Inv.quiet{pins:List (Addr×Obj)}(I:Inv X pins σ H s):interactive X.env=false:=by simp[interactive,I.ok.kind]
noncomputable def aFx(te:TE):TS:=fun D σ H=>te σ H fun _ H1=>D.nx σ H1
theorem aDN(he:PE X e te)(hs:swapsWith e none pos.line X.env=pure false:=by rfl):PS X (.Expr e pos) (aFx te):=by
 sleep 19;exact wpAny_Expr_any (thn (he pins s σ H _ I h) fun v s1 ⟨x,H1,I1,r1,q1⟩=>⟨σ,H1,I1,q1⟩) I.quiet hs
noncomputable def aGn(te:TE):TS:=fun D σ H=>te σ H D.rt
theorem aCa(he:PE X e te):PS X (.Return (some e) pos) (aGn te):=by
 sleep 19;exact wpAny_Return_some (thn (he pins s σ H _ I h) fun v s1 ⟨x,H1,I1,r1,q1⟩=>⟨x,σ,H1,I1,r1,q1⟩)
noncomputable def aIB(c:TT)(t u:TS):TS:=fun D σ H=>c σ H fun b H1=>if b=true then t D σ H1 else u D σ H1
theorem aFm{c:Expr}{a b:List Stmt}{tc:TT}(hc:PT X c tc)(ha:PSs X a t)(hb:PSs X b u):PS X (.If c a b pos) (aIB tc t u):=by
 sleep 19;refine wpAny_If (thn (hc pins s σ H _ I h) fun d s1 ⟨H1,I1,q1⟩=>?_);cases d with
 |true=>exact ha pins s1 σ H1 D I1 q1
 |false=>exact hb pins s1 σ H1 D I1 q1
end
noncomputable abbrev TG:=V->St->Hp->(St->Hp->Prop)->Prop
noncomputable abbrev TGs:=List V->St->Hp->(St->Hp->Prop)->Prop
noncomputable def PG(X:Cx)(target:Expr)(t:TG):Prop:=
 ∀(pins:List (Addr×Obj))(s:Shared)(σ:St)(H:Hp)(v:V)(u:Value)(Q:St->Hp->Prop),Inv X pins σ H s->RelV v u->t v σ H Q->
  wpAny (model X.prog X.w) X.A (assign target X.env u) (fun _ s'=>∃σ' H',Inv X pins σ' H' s'/\Q σ' H') X.xe s
noncomputable def PGs(X:Cx)(ts:List Expr)(t:TGs):Prop:=
 ∀(pins:List (Addr×Obj))(s:Shared)(σ:St)(H:Hp)(vs:List V)(us:List Value)(Q:St->Hp->Prop),Inv X pins σ H s->bK vs us->t vs σ H Q->
  wpAny (model X.prog X.w) X.A (assignInOrder ((assignEach ts X.env).map (·.2)) us) (fun _ s'=>∃σ' H',Inv X pins σ' H' s'/\Q σ' H') X.xe s
noncomputable abbrev aCU:=V->V->V->Hp->(Hp->Prop)->Prop
noncomputable def aHG(X:Cx)(t:aCU):Prop:=
 ∀(pins:List (Addr×Obj))(s:Shared)(σ:St)(H:Hp)(o i v:V)(ov iv u:Value)(Q:Hp->Prop),Inv X pins σ H s->RelV o ov->RelV i iv->RelV v u->t o i v H Q->
  wpAny (model X.prog X.w) X.A (setItem ov iv u) (fun _ s'=>∃H',Inv X pins σ H' s'/\Q H') X.xe s
section
variable{X:Cx}{pos:Pos}
noncomputable def OI(i:Nat):TG:=fun v σ H Q=>Q (σ.set i (some v)) H
theorem aDy{i:Nat}{x:Str}(hN:X.N.Nodup)(hi:X.N[i]?=some x)(hx:Loc X.env.scope x)(hf:X.fn x=true\/X.env.scope.names.lookup x=some .local:=by first|exact .inl rfl|exact .inr rfl|assumption):PG X (.Name x pos) (OI i):=by
 intro pins s σ H v u Q I r h;exact wpAny_assign_Name (rW I hN hi hx r (fun s' I'=>⟨_,H,I',h⟩) hf)
noncomputable def aJC:TGs:=fun vs σ H Q=>vs=[]/\Q σ H
noncomputable def aFn(t:TG)(u:TGs):TGs:=fun vs σ H Q=>∃v r,vs=v::r/\t v σ H fun σ' H'=>u r σ' H' Q
theorem aCM:PGs X [] aJC:=by
 intro pins s σ H vs us Q I r h;obtain⟨e,h⟩:=h;subst e;cases r;exact assignInOrder_nil ⟨σ,H,I,h⟩
theorem aBo{e:Expr}{es:List Expr}{t:TG}{u:TGs}(h1:PG X e t)(h2:PGs X es u)
 (hs:(assignEach (e::es) X.env).map (·.2)=assign e X.env::(assignEach es X.env).map (·.2):=by rfl):PGs X (e::es) (aFn t u):=by
 intro pins s σ H vs us Q I r h;obtain⟨v,vr,e1,h⟩:=h;subst e1;cases r with
 |cons r rr=>
  rw[hs];refine assignInOrder_cons (thn (h1 pins s σ H _ _ _ I r h) fun _ s1 ⟨σ1,H1,I1,q1⟩=>?_);exact h2 pins s1 σ1 H1 _ _ Q I1 rr q1
noncomputable def aAe(K:Fg)(n:Nat)(t:TGs):TG:=fun v σ H Q=>∃a xs,v=.ref a/\SqT K H a xs/\xs.length=n/\t xs σ H Q
theorem aHv{es:List Expr}{k:Nat}{t:TGs}{n:Nat}(hc:X.calm=true)(h:PGs X es t)
 (hn:(assignEach es X.env).length=n:=by rfl) (hst:(assignEach es X.env).findIdx? (·.1)=none:=by rfl):PG X (.Tuple es k pos) (aAe X.K n t):=by
 intro pins s σ H v u Q I r hw;obtain⟨a,xs,e1,hq,hl,hw⟩:=hw;subst e1;cases r;obtain⟨its,rv,ht,hz⟩:=I.tuple hq;refine assign_Tuple_tuple (I.ok.hd hc) ht (by simp[hn,<- hl,rv.length]) hst fun h' hx=>?_;have I1:Inv X pins σ H { s with heap:=h' }:=I.kept (t':=s.toks) fun b o e=>hx b o (B6 (B0 e)) e;exact h pins _ σ H xs _ Q I1 (by simpa using rv) hw
noncomputable def aJX(to ti:TE)(t:aCU):TG:=fun v σ H Q=>to σ H fun o H1=>ti σ H1 fun i H2=>t o i v H2 fun H3=>Q σ H3
theorem aIx{o i:Expr}{to ti:TE}{t:aCU}(ho:PE X o to)(hi:PE X i ti)(hs:aHG X t)
 (ha:∀v,assign (.Subscript o i pos) X.env v=(do
  let ov <- holding [v] (eval o X.env);let iv <- holding [v,ov] (eval i X.env)
  standAt pos
  holding [v,ov,iv] (setItem ov iv v)
  release [v,ov,iv] []):=by intro _;rfl):PG X (.Subscript o i pos) (aJX to ti t):=by
 intro pins s σ H v u Q I r h;rw[ha];refine A0 (E2 (thn (ho pins s σ H _ I h) fun ov s1 ⟨x,H1,I1,r1,q1⟩=>?_));refine A0 (E2 (thn (hi pins s1 σ H1 _ I1 q1) fun iv s2 ⟨y,H2,I2,r2,q2⟩=>?_));refine A0 (S4 (A0 (E2 (thn (hs pins s2 σ H2 x y v ov iv u _ I2 r1 r2 r q2) fun _ s3 ⟨H3,I3,q3⟩=>?_))));exact wpAny_release ⟨σ,H3,I3,q3⟩
noncomputable def aCu(te:TE)(g:TG):TS:=fun D σ H=>te σ H fun x H1=>g x σ H1 D.nx
theorem aHj{tg e:Expr}{te:TE}{g:TG}(he:PE X e te)(hg:PG X tg g)(hs:swapsWithSole [tg] e pos.line X.env=pure false:=by rfl)(hw:swappedStores [tg] e X.env=pure none:=by rfl)
 (h1:(assignEach [tg] X.env).map (·.2)=[assign tg X.env]:=by rfl):PS X (.Assign [tg] e pos) (aCu te g):=by
 sleep 19;refine wpAny_Assign_stores (thn (he pins s σ H _ I h) fun v s1 ⟨x,H1,I1,r1,q1⟩=>?_) hs hw;rw[h1];exact thn (hg pins s1 σ H1 x v _ I1 r1 q1) fun _ s2 q=>q
theorem aAD{i:Nat}{x:Str}{e:Expr}{te:TE}{pos':Pos}(hN:X.N.Nodup)(hi:X.N[i]?=some x)(hx:Loc X.env.scope x)(he:PE X e te)(hs:swapsWith e (some (.Name x pos')) pos.line X.env=pure false:=by rfl)(hf:X.fn x=true\/X.env.scope.names.lookup x=some .local:=by first|exact .inl rfl|exact .inr rfl|assumption):
 PS X (.Assign [.Name x pos'] e pos) (aCu te (OI i)):=by
 sleep 19;refine wpAny_Assign_Name (thn (he pins s σ H _ I h) fun v s1 ⟨y,H1,I1,r1,q1⟩=>?_) hs;exact rW I1 hN hi hx r1 (fun s2 I2=>⟨_,H1,I2,q1⟩) hf
noncomputable def aKd(i j:Nat)(ta:TA):TS:=fun D σ H=>ta σ H fun vs H1=>∃v w,vs=[v,w]/\D.nx ((σ.set i (some v)).set j (some w)) H1
theorem aGy{i j:Nat}{x y:Str}{a b:Expr}{ta:TA}{px py pt:Pos}{kt k2 pt2}(hc:X.calm=true)(hN:X.N.Nodup)(hi:X.N[i]?=some x)(hj:X.N[j]?=some y)(hij:i≠j)
 (hx:X.env.scope.names.lookup x=some .local) (hy:X.env.scope.names.lookup y=some .local) (ha:PA X [a,b] ta)
 (hw:swappedStores [.Tuple [.Name x px,.Name y py] kt pt] (.Tuple [a,b] k2 pt2) X.env=pure (some [x,y]))
 (hs:swapsWithSole [.Tuple [.Name x px,.Name y py] kt pt] (.Tuple [a,b] k2 pt2) pos.line X.env=pure false:=by rfl):
 PS X (.Assign [.Tuple [.Name x px,.Name y py] kt pt] (.Tuple [a,b] k2 pt2) pos) (aKd i j ta):=by
 sleep 19;rw[exec_Assign_arm];refine A0 (S4 ?_);rw[hs];refine A0 (A6 ?_);rw[A5 (by decide)];refine A0 (Tuple_ (thn (ha _ pins s σ H _ I h) fun us s1 ⟨vs,H1,I1,r1,q1⟩=>?_));obtain⟨v,w,e1,q1⟩:=q1;subst e1
 obtain⟨u1,u2,rfl,rv,rw'⟩:∃u1 u2,us=[u1,u2]/\RelV v u1/\RelV w u2:=by
  cases r1 with
  |cons p q=>
   cases q with
   |cons p' q'=>
    cases q';exact⟨_,_,rfl,p,p'⟩
 refine D7 ?_ (by show 2<=sizeLine;decide);have I2:Inv X pins σ H1 { s1 with heap:=s1.heap.push { cls:=.type "tuple",data:=.seq [u1,u2].toArray } }:=I1.kept (t':=s1.toks) fun b o e=>A2 _ e;rw[hw];refine A0 (A6 ?_);show wpAny (model X.prog X.w) X.A (do rule "assign.swapped-stores";let items <- unpackItems (.ref s1.heap.objs.size) 2 none;assignInOrder [fun v=>bindName X.env y v,fun v=>bindName X.env x v] items.reverse;pure Flow.next) _ _ _;refine A0 (wpAny_rule (A0 (unpackItems_tuple (items:=#[u1,u2]) (I.ok.hd hc) (IsTup.new s1.heap _) fun h' hx'=>?_)));have I3:=I2.kept (h':=h') (t':=s1.toks) fun b o e=>hx' b o (B6 (B0 e)) e;show wpAny _ _ (assignInOrder [fun v=>bindName X.env y v,fun v=>bindName X.env x v] [u2,u1] >>= fun _=>pure Flow.next) _ _ _;refine A0 (assignInOrder_cons (wpAny_bindName (rW I3 hN hj (.inl hy) rw' (fun s2 I4=>?_) (.inr hy))));refine assignInOrder_cons (wpAny_bindName (rW I4 hN hi (.inl hx) rv (fun s3 I5=>assignInOrder_nil (A6 ?_)) (.inr hx)));rw[List.set_comm _ _ (F4 hij)]at I5;exact⟨_,H1,I5,q1⟩
end
section
variable{X:Cx}{pos:Pos}
noncomputable def aBO(c:TT)(tb:TS):TS:=fun D σ H=>∃W:Nat->St->Hp->Prop,(∃m,W m σ H)/\∀m σ H,W m σ H->
 c σ H fun b H1=>if b=true then ∃N:St->Hp->Prop,(∀σ' H',N σ' H'->∃m',m'<m/\W m' σ' H')/\tb { D with nx:=N,ct:=N,bk:=D.nx } σ H1 else D.nx σ H1
theorem aAh{c:Expr}{body:List Stmt}{tc:TT}{tb:TS}(hp:PassesOwn (model X.prog X.w) X.A X.env X.xe)(hc:PT X c tc)(hb:PSs X body tb):PS X (.While c body [] pos) (aBO tc tb):=by
 sleep 19;obtain⟨W,⟨m0,w0⟩,turn⟩:=h;refine wpAny_While (codeAny_whileLoop (fun n s'=>∃σ' H',Inv X pins σ' H' s'/\W n σ' H') ?_ m0 ⟨σ,H,I,w0⟩);rintro n s1 ⟨σ1,H1,I1,w1⟩;refine S2 hp (thn (hc pins s1 σ1 H1 _ I1 (turn n σ1 H1 w1)) fun b s2 ⟨H2,I2,q2⟩=>?_);cases b with
 |true=>
  obtain⟨N,hN,q2⟩:=q2;rw[A3 rfl];refine S2 hp (thn (hb pins s2 σ1 H2 _ I2 q2) fun f s3 q3=>?_);cases f with
  |next=>
   obtain⟨σ3,H3,I3,n3⟩:=q3;obtain⟨m',hm,w3⟩:=hN σ3 H3 n3;exact⟨m',hm,σ3,H3,I3,w3⟩
  |cont=>
   obtain⟨σ3,H3,I3,n3⟩:=q3;obtain⟨m',hm,w3⟩:=hN σ3 H3 n3;exact⟨m',hm,σ3,H3,I3,w3⟩
  |brk=>exact q3
  |ret v=>exact q3
 |false=>
  rw[A5 A4];exact Z3 ⟨σ1,H2,I2,q2⟩
end
structure It where
 go:Nat->Hp->Prop
 yld:Nat->Hp->V->Hp->Prop
 stop:Nat->Hp->Prop
noncomputable def uH(X:Cx)(pins:List (Addr×Obj))(H:Hp)(b:Addr):Prop:=
 H b=none/\b≠X.env.locals/\b∉X.fs/\(b∈X.ex\/X.s₀.heap.objs.size<=b)/\(∀x c,X.env.cells.lookup x=some c->c≠b)/\∀p∈X.pn++pins,p.1≠b
theorem Inv.fpOk{X:Cx}{pins:List (Addr×Obj)}{H':Hp}{b:Addr}(I:Inv X pins σ H s)(hb:s.heap.objs.size<=b)(hn:H' b=none):uH X pins H' b:=by
 refine⟨hn,F7 (B8 I.lt hb),I.nofs hb,.inr (C8 I.sz hb),fun x c e z=>?_,fun p hp z=>?_⟩
 .obtain⟨v,q⟩:=I.cell x c e;exact absurd (B8 q.lt (by rw[z];exact hb)) (F6 _)
 .exact absurd (B8 (B0 (I.pin p hp).1) (by rw[z];exact hb)) (F6 _)
structure Turn(P:Program)(w:World)(K:Fg)(tg:Expr)(J:It)(fp:List Addr)(it:Addr)(tn:Nat->Heap->Prop):Prop where
 mem:it∈fp
 obj:∀i h,tn i h->∀b∈fp,∃o,h.get? b=some o/\∀v,o.data≠.cell v
 keep:∀i h h',tn i h->(∀b∈fp,∀o,h.get? b=some o->h'.get? b=some o)->tn i h'
 item:∀(X:Cx),X.prog=P->X.w=w->X.K=K->X.calm=true->∀(i:Nat)(pins:List (Addr×Obj))(s:Shared)(σ:St)(H:Hp)(E:Value->Shared->Prop),Inv X pins σ H s->(∀b∈fp,uH X pins H b)->tn i s.heap->J.go i H->
  wpAny (model P w) X.A (pyNext (.ref it)) (fun r s1=>∃u,r=some u /\
   wpAny (model P w) X.A (letOwnedTupleGo tg (.ref it) u) (fun _ s2=>∃x H',Inv X pins σ H' s2/\RelV x u/\J.yld i H x H'/\tn (i+1) s2.heap/\∀b∈fp,H' b=none) E s1) E s
 done:∀(X:Cx),X.prog=P->X.w=w->X.K=K->X.calm=true->∀(i:Nat)(pins:List (Addr×Obj))(s:Shared)(σ:St)(H:Hp)(E:Value->Shared->Prop),Inv X pins σ H s->(∀b∈fp,uH X pins H b)->tn i s.heap->J.stop i H->
  wpAny (model P w) X.A (pyNext (.ref it)) (fun r s1=>r=none/\Inv X pins σ H s1) E s
 self:∀(A:Around)(i:Nat)(s:Shared)(Q:Value->Shared->Prop)(E:Value->Shared->Prop),tn i s.heap->Q (.ref it) s->wpAny (model P w) A (pyIter (.ref it)) Q E s
noncomputable abbrev TI:=St->Hp->(It->Hp->Prop)->Prop
noncomputable def PIE(X:Cx)(pins:List (Addr×Obj))(σ:St)(tg:Expr)(R:It->Hp->Prop)(itv:Value)(s2:Shared):Prop:=
 ∃(it:Addr)(fp:List Addr)(tn:Nat->Heap->Prop)(J:It)(H':Hp),itv=.ref it/\Inv X pins σ H' s2/\Turn X.prog X.w X.K tg J fp it tn/\tn 0 s2.heap/\(∀b∈fp,uH X pins H' b)/\R J H'
noncomputable def PI(X:Cx)(tg iter:Expr)(wi:TI):Prop:=
 ∀(pins:List (Addr×Obj))(s:Shared)(σ:St)(H:Hp)(R:It->Hp->Prop),Inv X pins σ H s->wi σ H R->
  wpAny (model X.prog X.w) X.A (eval iter X.env) (fun v s1=>wpAny (model X.prog X.w) X.A (pyIter v) (PIE X pins σ tg R) X.xe s1) X.xe s
theorem ZE{M:Model}{A:Around}{E:Value->Shared->Prop}{tg:Expr}{it:Addr}{u:Value}{o:Obj}{n:String}{vs:Array Value}{Q:Unit->Shared->Prop}(ho:s.heap.get? it=some o)(hc:o.cls=.type n)(hd:o.data=.fields vs)
 (hn:["enumerate","zip","dict_itemiterator","dict_reverseitemiterator","odict_iterator","itertools.zip_longest","itertools.pairwise"].contains n=false) (hQ:Q () s):wpAny M A (letOwnedTupleGo tg (.ref it) u) Q E s:=by
 unfold letOwnedTupleGo
 cases tg<;>first
  |exact A6 hQ
  |(cases u<;>first
   |exact A6 hQ
   | (refine A0 (wpAny_load ho ?_)
      rw[hc,hd];show wpAny M A (if (["enumerate","zip","dict_itemiterator","dict_reverseitemiterator","odict_iterator","itertools.zip_longest","itertools.pairwise"].contains n&&vs[0]?==some (rawInt _))=true then _ else _) Q E s;rw[A5 (by intro h;rw[hn,Bool.false_and]at h;cases h)];exact A6 hQ))
noncomputable def Itl(K:Fg)(a:Addr):It:=
 ⟨fun i H=>∃xs x,SqL K H a xs/\xs[i]?=some x,fun i H x H'=>H'=H/\∀xs,SqL K H a xs->xs[i]?=some x,fun i H=>∃xs,SqL K H a xs/\xs.length<=i⟩
noncomputable def Itt(K:Fg)(a:Addr):It:=
 ⟨fun i H=>∃xs x,SqT K H a xs/\xs[i]?=some x,fun i H x H'=>H'=H/\∀xs,SqT K H a xs->xs[i]?=some x,fun i H=>∃xs,SqT K H a xs/\xs.length<=i⟩
noncomputable def Itr(lo:Int)(n:Nat):It:=⟨fun i _=>i<n,fun i H x H'=>H'=H/\x=.int (lo+i),fun i _=>n<=i⟩
theorem tP{P:Program}{w:World}{tg:Expr}(a it:Addr):Turn P w K tg (Itl K a) [it] it (fun i h=>h.IsListIter it a i) where
 mem:=by simp
 obj:=fun i h st b hb=>by
  have e:b=it:=by simpa using hb
  subst e;obtain⟨o,e,c,d⟩:=st;exact⟨o,e,fun v z=>by rw[d]at z;cases z⟩
 keep:=fun i h h' st k=>st.at fun o e=>k it (by simp) o e
 item:=by
  sleep 16;subst hP hw hK;obtain⟨xs,x,hq,hx⟩:=hg;obtain⟨its,rv,p,hz⟩:=I.list hq;obtain⟨u,hu,ru⟩:=rv.get hx;obtain⟨f0,f1,f2,f3,f4,f5⟩:=hf it (by simp);refine wpAny_pyNext_list_item st p.isList (x:=u) (by simpa using hu) fun h' st' sb=>?_;have I1:Inv X pins σ H { s with heap:=h' }:=I.turned (t':=s.toks) (fun b o hb e=>(sb.2 b hb).trans e) f0 f1 f3 f4 f5;obtain⟨o,e,c,d⟩:=id st';exact⟨u,rfl,ZE (s:={ s with heap:=h' }) e c d (by decide) ⟨x,H,I1,ru,⟨rfl,fun ys hy=>by rw[I.list_inj hy hq];exact hx⟩,st',fun b hb=>(hf b hb).1⟩⟩
 done:=by
  sleep 16;subst hP hw hK;obtain⟨xs,hq,hx⟩:=hg;obtain⟨its,rv,p,hz⟩:=I.list hq;obtain⟨f0,f1,f2,f3,f4,f5⟩:=hf it (by simp);have hl:=rv.length;exact wpAny_pyNext_list_end (I.ok.hd hc) st p.isList (by simp;omega) fun h' eb=>⟨rfl,I.turned (t':=s.toks) (fun b o hb e=>eb b o hb e) f0 f1 f3 f4 f5⟩
 self:=fun _ _ _ _ _ st h=>wpAny_pyIter_listiter st h
theorem RO{P:Program}{w:World}{tg:Expr}(a it:Addr):Turn P w K tg (Itt K a) [it] it (fun i h=>h.IsTupleIter it a i) where
 mem:=by simp
 obj:=fun i h st b hb=>by
  have e:b=it:=by simpa using hb
  subst e;obtain⟨o,e,c,d⟩:=st;exact⟨o,e,fun v z=>by rw[d]at z;cases z⟩
 keep:=fun i h h' st k=>st.at fun o e=>k it (by simp) o e
 item:=by
  sleep 16;subst hP hw hK;obtain⟨xs,x,hq,hx⟩:=hg;obtain⟨its,rv,p,hz⟩:=I.tuple hq;obtain⟨u,hu,ru⟩:=rv.get hx;obtain⟨f0,f1,f2,f3,f4,f5⟩:=hf it (by simp);refine wpAny_pyNext_tuple_item st (show s.heap.IsTuple a its.toArray from p) (x:=u) (by simpa using hu) fun h' st' sb=>?_;have I1:Inv X pins σ H { s with heap:=h' }:=I.turned (t':=s.toks) (fun b o hb e=>(sb.2 b hb).trans e) f0 f1 f3 f4 f5;obtain⟨o,e,c,d⟩:=id st';exact⟨u,rfl,ZE (s:={ s with heap:=h' }) e c d (by decide) ⟨x,H,I1,ru,⟨rfl,fun ys hy=>by rw[I.tuple_inj hy hq];exact hx⟩,st',fun b hb=>(hf b hb).1⟩⟩
 done:=by
  sleep 16;subst hP hw hK;obtain⟨xs,hq,hx⟩:=hg;obtain⟨its,rv,p,hz⟩:=I.tuple hq;obtain⟨f0,f1,f2,f3,f4,f5⟩:=hf it (by simp);have hl:=rv.length;exact wpAny_pyNext_tuple_end (I.ok.hd hc) st (show s.heap.IsTuple a its.toArray from p) (by simp;omega) fun h' eb=>⟨rfl,I.turned (t':=s.toks) (fun b o hb e=>eb b o hb e) f0 f1 f3 f4 f5⟩
 self:=fun _ _ _ _ _ st h=>wpAny_pyIter_tupleiter st h
theorem RN{P:Program}{w:World}{tg:Expr}(it:Addr)(lo:Int)(n:Nat):Turn P w K tg (Itr lo n) [it] it (fun i h=>IsRangeIter h it (lo+(i:Nat)*1) ((n:Int)-(i:Nat)) 1) where
 mem:=by simp
 obj:=fun i h st b hb=>by
  have e:b=it:=by simpa using hb
  subst e
  exact⟨_,st,fun v z=>by
   have z':Data.fields _=Data.cell v:=z;cases z'⟩
 keep:=fun i h h' st k=>k it (by simp) _ st
 item:=by
  sleep 16;subst hP hw hK;obtain⟨f0,f1,f2,f3,f4,f5⟩:=hf it (by simp);have W:=Walks.range (prog:=X.prog) (w:=X.w) (I.ok.hd hc) it lo 1 n;refine W.item i s _ _ hg st fun v h' tk hv st' kk=>?_;obtain⟨t,rfl⟩:=hv;have I1:Inv X pins σ H { s with heap:=h',toks:=tk }:=I.turned (fun b o hb e=>kk b o (by simpa using hb) e) f0 f1 f3 f4 f5;refine⟨_,rfl,ZE (s:={ s with heap:=h',toks:=tk }) (n:="range_iterator") st' rfl rfl (by decide) ⟨.int (lo+i),H,I1,⟨t,?_⟩,⟨rfl,rfl⟩,st',fun b hb=>(hf b hb).1⟩⟩;rw[Int.mul_one]
 done:=by
  sleep 16;subst hP hw hK;obtain⟨f0,f1,f2,f3,f4,f5⟩:=hf it (by simp);exact wpAny_pyNext_range_end (I.ok.hd hc) st (by have:n<=i:=hg;omega) fun h' eb=>⟨rfl,I.turned (t':=s.toks) (fun b o hb e=>eb b o hb e) f0 f1 f3 f4 f5⟩
 self:=fun _ _ _ _ _ st h=>wpAny_pyIter_rangeiter st h
section
variable{X:Cx}{tg:Expr}
theorem XX{pins:List (Addr×Obj)}{R:It->Hp->Prop}{E:Value->Shared->Prop}{lo hi:Int}{t u v:Tok}{tk:Nat}(I:Inv X pins σ H s)(h1:-(2 ^ 62)<=lo)(h2:lo<2 ^ 62)(h3:-(2 ^ 62)<=hi)(h4:hi<2 ^ 62)
 (q:R (Itr lo (hi-lo).toNat) H):wpAny (model X.prog X.w) X.A (pyIter (.ref s.heap.objs.size)) (PIE X pins σ tg R) E { s with heap:=s.heap.push { cls:=.type "range",data:=.fields #[.int lo t,.int hi u,.int 1 v] },toks:=tk }:=by
 refine wpAny_pyIter_range (IsRange.new ..) (small_one h1 h2 h3 h4) ?_;have I1:Inv X pins σ H { s with heap:=s.heap.push { cls:=.type "range",data:=.fields #[.int lo t,.int hi u,.int 1 v] },toks:=tk }:=I.kept fun b o e=>A2 _ e
 refine⟨(s.heap.push { cls:=.type "range",data:=.fields #[.int lo t,.int hi u,.int 1 v] }).objs.size,[(s.heap.push { cls:=.type "range",data:=.fields #[.int lo t,.int hi u,.int 1 v] }).objs.size],_,_,H,rfl,
  I1.kept (t':=tk) fun b o e=>A2 _ e,RN _ lo (hi-lo).toNat,?_,fun b hb=>?_,q⟩
 .have e1:lo+((0:Nat):Int)*1=lo:=by simp
  have e2:(((hi-lo).toNat:Nat):Int)-((0:Nat):Int)=Builtin.Range.rangeSize lo hi 1:=by rw[rangeSize_one];split<;>omega
  show IsRangeIter _ _ (lo+((0:Nat):Int)*1) ((((hi-lo).toNat:Nat):Int)-((0:Nat):Int)) 1;rw[e1,e2];exact B7 _ rfl
 .have e:b=(s.heap.push { cls:=.type "range",data:=.fields #[.int lo t,.int hi u,.int 1 v] }).objs.size:=by simpa using hb
  subst e;exact I1.fpOk (A7 _) (I1.hok.fresh (A7 _))
noncomputable def aFj(ta:TA):TI:=fun σ H R=>ta σ H fun vs H1=>∃j:Int,vs=[.int j]/\-(2 ^ 62)<=j/\j<2 ^ 62/\R (Itr 0 j.toNat) H1
theorem VG{a:Expr}{ta:TA}{p:Pos}(hg:Gl X "range")(hm:X.mg "range"=none)(ha:PA X [a] ta)(hs:starEach [a] X.env=[(false,eval a X.env)]:=by rfl):PI X tg (.Call (.Name "range" p) [a] [] pos) (aFj ta):=by
 intro pins s σ H R I h;refine Call_ (wA I hg hm boot_range (Y6 (thn (ha pos pins s σ H _ I h) fun us s1 ⟨vs,H1,I1,r1,q1⟩=>?_) hs rfl));obtain⟨j,e,q1,q2,q⟩:=q1;subst e;cases r1 with
 |cons r rr=>
  cases rr;obtain⟨t,rfl⟩:=r;exact call_range_1 (XX I1 (by omega) (by omega) q1 q2 (by simpa using q))
noncomputable def aDV(wi:TI)(g:TG)(tb:TS):TS:=fun D σ H=>wi σ H fun J H1=>∃W:Nat->Nat->St->Hp->Prop,(∃m,W 0 m σ H1)/\∀i m σ H,W i m σ H->
 (J.stop i H/\D.nx σ H)\/(J.go i H/\∃N:St->Hp->Prop,(∀σ' H',N σ' H'->∃m',m'<m/\W (i+1) m' σ' H')/\∀x H',J.yld i H x H'->g x σ H' fun σ2 H2=>tb { D with nx:=N,ct:=N,bk:=D.nx } σ2 H2)
noncomputable def yW(fp:List Addr)(h:Heap):List (Addr×Obj):=fp.filterMap fun b=>(h.get? b).map fun o=>(b,o)
theorem jI{fp:List Addr}{h:Heap}{b:Addr}{o:Obj}(hb:b∈fp)(e:h.get? b=some o):(b,o)∈yW fp h:=List.mem_filterMap.mpr ⟨b,hb,by rw[e];rfl⟩
theorem VJ{fp:List Addr}{h:Heap}{p:Addr×Obj}(hp:p∈yW fp h):p.1∈fp/\h.get? p.1=some p.2:=by
 obtain⟨b,hb,e⟩:=List.mem_filterMap.mp hp;cases q:h.get? b with
 |none=>rw[q]at e;cases e
 |some o=>
  rw[q]at e;have e':(b,o)=p:=D2 e;subst e';exact⟨hb,q⟩
theorem Inv.pinned{pins:List (Addr×Obj)}{fp:List Addr}(I:Inv X pins σ H s)(hf:∀b∈fp,uH X pins H b)(ho:∀b∈fp,∃o,s.heap.get? b=some o/\∀v,o.data≠.cell v):Inv X (pins++yW fp s.heap) σ H s:=
 I.pins_of fun p hp=>(List.mem_append.mp hp).elim (fun z=>I.pin p (C9 _ z)) fun z=>by
  obtain⟨hb,e⟩:=VJ z;obtain⟨f0,f1,f2,_⟩:=hf p.1 hb;obtain⟨o,e',d⟩:=ho p.1 hb;rw[e]at e';cases e';exact⟨e,f0,f1,f2,d⟩
theorem Inv.unpinned{pins pl:List (Addr×Obj)}(I:Inv X (pins++pl) σ H s):Inv X pins σ H s:=I.pins_of fun p hp=>I.pin p (C9 _ (F0 _ hp))
theorem PD{iter:Expr}{body:List Stmt}{wi:TI}{g:TG}{tb:TS}{pos:Pos}(hp:PassesOwn (model X.prog X.w) X.A X.env X.xe)(hc:X.calm=true)(hi:PI X tg iter wi)(hg:PG X tg g)(hb:PSs X body tb)
 (hs:∀x,foldedSetIterable iter X.env x=pure x:=by intro _;rfl):PS X (.For tg iter body [] pos) (aDV wi g tb):=by
 sleep 19;refine wpAny_For (thn (hi pins s σ H _ I h) fun v s1 h1=>thn h1 fun itv s2 h2=>?_) hs;obtain⟨it,fp,tn,J,H2,e,I2,T,st2,f2,W,⟨m0,w0⟩,turn⟩:=h2;subst e;have stat:∀{H':Hp},(∀b∈fp,H' b=none)->∀b∈fp,uH X pins H' b:=fun hn b hb=>⟨hn b hb,(f2 b hb).2⟩;refine codeAny_forLoop_any (fun n s'=>∃i σ' H',Inv X pins σ' H' s'/\tn i s'.heap/\(∀b∈fp,H' b=none)/\W i n σ' H') ?_ m0 ⟨0,σ,H2,I2,st2,fun b hb=>(f2 b hb).1,w0⟩;rintro n s3 ⟨i,σ3,H3,I3,st3,fr3,w3⟩;rcases turn i n σ3 H3 w3 with⟨stop,qn⟩|⟨go,N,hN,step⟩
 .refine S2 hp (thn (T.done X rfl rfl rfl hc i pins s3 σ3 H3 X.xe I3 (stat fr3) st3 stop) fun r s4 ⟨hr,I4⟩=>?_);subst hr;exact Z3 ⟨σ3,H3,I4,qn⟩
 .refine S2 hp (thn (T.item X rfl rfl rfl hc i pins s3 σ3 H3 X.xe I3 (stat fr3) st3 go) fun r s4 ⟨u,hr,h4⟩=>?_);subst hr;refine S2 hp (thn h4 fun _ s5 ⟨x,H5,I5,r5,y5,st5,fr5⟩=>?_);have I5':=I5.pinned (stat fr5) (T.obj _ _ st5);refine S2 hp (thn (hg _ s5 σ3 H5 x u _ I5' r5 (step x H5 y5)) fun _ s6 ⟨σ6,H6,I6,q6⟩=>?_);refine S2 hp (thn (hb _ s6 σ6 H6 _ I6 q6) fun f s7 q7=>?_)
  have again:∀{σ7:St}{H7:Hp},Inv X (pins++yW fp s5.heap) σ7 H7 s7->N σ7 H7->∃m,m<n/\∃i σ' H',Inv X pins σ' H' s7/\tn i s7.heap/\(∀b∈fp,H' b=none)/\W i m σ' H':=fun{σ7 H7} I7 n7=>by
   obtain⟨m',hm,w7⟩:=hN σ7 H7 n7;refine⟨m',hm,i+1,σ7,H7,I7.unpinned,T.keep _ _ _ st5 fun b hb o e=>(I7.pin (b,o) (C9 _ (C9 _ (jI hb e)))).1,fun b hb=>?_,w7⟩;obtain⟨o,e,d⟩:=T.obj _ _ st5 b hb;exact(I7.pin (b,o) (C9 _ (C9 _ (jI hb e)))).2.1
  cases f with
  |next=>obtain⟨σ7,H7,I7,n7⟩:=q7;exact again I7 n7
  |cont=>obtain⟨σ7,H7,I7,n7⟩:=q7;exact again I7 n7
  |brk=>obtain⟨σ7,H7,I7,q7⟩:=q7;exact⟨σ7,H7,I7.unpinned,q7⟩
  |ret v=>obtain⟨x7,σ7,H7,I7,r7,q7⟩:=q7;exact⟨x7,σ7,H7,I7.unpinned,r7,q7⟩
end
noncomputable abbrev R2:=V->V->Hp->VK->Prop
noncomputable def OpR(X:Cx)(f:Value->Value->Sem Value)(r:R2):Prop:=
 ∀(pins:List (Addr×Obj))(s:Shared)(σ:St)(H:Hp)(x y:V)(v u:Value)(Q:VK),Inv X pins σ H s->RelV x v->RelV y u->r x y H Q->
  wpAny (model X.prog X.w) X.A (f v u) (EP X pins σ Q) X.xe s
noncomputable def UnR(X:Cx)(f:Value->Sem Value)(r:V->Hp->VK->Prop):Prop:=
 ∀(pins:List (Addr×Obj))(s:Shared)(σ:St)(H:Hp)(x:V)(v:Value)(Q:VK),Inv X pins σ H s->RelV x v->r x H Q->
  wpAny (model X.prog X.w) X.A (f v) (EP X pins σ Q) X.xe s
noncomputable def gO(X:Cx)(f:Value)(r:List V->Hp->VK->Prop):Prop:=
 ∀(pins:List (Addr×Obj))(s:Shared)(σ:St)(H:Hp)(xs:List V)(us:List Value)(Q:VK),Inv X pins σ H s->bK xs us->r xs H Q->
  wpAny (model X.prog X.w) X.A (call f us) (EP X pins σ Q) X.xe s
noncomputable def aKs(X:Cx)(r:V->Hp->(Bool->Hp->Prop)->Prop):Prop:=
 ∀(pins:List (Addr×Obj))(s:Shared)(σ:St)(H:Hp)(x:V)(v:Value)(Q:Bool->Hp->Prop),Inv X pins σ H s->RelV x v->r x H Q->
  wpAny (model X.prog X.w) X.A (truthy v) (TP X pins σ Q) X.xe s
noncomputable def tOp(r:R2)(ta tb:TE):TE:=fun σ H Q=>ta σ H fun x H1=>tb σ H1 fun y H2=>r x y H2 Q
noncomputable def tUn(r:V->Hp->VK->Prop)(ta:TE):TE:=fun σ H Q=>ta σ H fun x H1=>r x H1 Q
noncomputable def rI(C:Int->Int->Prop)(g:Int->Int->V):R2:=fun x y H Q=>∃i j,x=.int i/\y=.int j/\C i j/\Q (g i j) H
noncomputable def rI0(g:Int->Int->V):R2:=fun x y H Q=>∃i j,x=.int i/\y=.int j/\Q (g i j) H
noncomputable def rU(g:Int->V):V->Hp->VK->Prop:=fun x H Q=>∃i,x=.int i/\Q (g i) H
section
variable{X:Cx}{a b c:Expr}{ta tb tc:TE}{pos:Pos}
theorem aFO(ha:PE X a ta)(hb:PE X b tb){pins:List (Addr×Obj)}{R:V->V->Hp->Prop}(I:Inv X pins σ H s)
 (h:ta σ H fun x H1=>tb σ H1 fun y H2=>R x y H2) {Q:Value->Shared->Prop} {f:Value->Value->Sem Value}
 (hf:∀v u s2 x y H2,Inv X pins σ H2 s2->RelV x v->RelV y u->R x y H2->wpAny (model X.prog X.w) X.A (f v u) Q X.xe s2):
 wpAny (model X.prog X.w) X.A (eval a X.env) (fun v s₁=>wpAny (model X.prog X.w) X.A (eval b X.env) (fun u s₂=>wpAny (model X.prog X.w) X.A (f v u) Q X.xe s₂) X.xe s₁) X.xe s:=by
 refine thn (ha pins s σ H _ I h) fun v s1 ⟨x,H1,I1,r1,q1⟩=>?_;refine thn (hb pins s1 σ H1 _ I1 q1) fun u s2 ⟨y,H2,I2,r2,q2⟩=>?_;exact hf v u s2 x y H2 I2 r1 r2 q2
theorem aJJ{op:Operator}{r:R2}(ho:OpR X (binaryOp op) r)(ha:PE X a ta)(hb:PE X b tb):PE X (.BinOp a op b pos) (tOp r ta tb):=by
 sleep 10;exact wpAny_BinOp (aFO ha hb I h fun v u s2 x y H2 I2 rx ry q=>ho pins s2 σ H2 x y v u Q I2 rx ry q)
theorem aJM{op:UnaryOp}{r:V->Hp->VK->Prop}(ho:UnR X (unaryOp op) r)(ha:PE X a ta):PE X (.UnaryOp op a pos) (tUn r ta):=by
 sleep 10;exact UnaryOp_ (thn (ha pins s σ H _ I h) fun v s1 ⟨x,H1,I1,r1,q1⟩=>ho pins s1 σ H1 x v Q I1 r1 q1)
theorem opI{f:Value->Value->Sem Value}{C:Int->Int->Prop}{g:Int->Int->Int}
 (rule:∀(i j:Int)(t u:Tok)(s:Shared)(Q:Value->Shared->Prop)(E:Value->Shared->Prop),C i j->Q (.int (g i j) s.toks) { s with toks:=s.toks+1 }->wpAny (model X.prog X.w) X.A (f (.int i t) (.int j u)) Q E s):
 OpR X f (rI C fun i j=>.int (g i j)):=by
 sleep 13;obtain⟨i,j,rfl,rfl,hc,q⟩:=h;obtain⟨t,rfl⟩:=rx;obtain⟨t',rfl⟩:=ry;exact rule i j t t' s _ _ hc ⟨.int (g i j),H,I.tok _,⟨_,rfl⟩,q⟩
theorem aKf{f:Value->Value->Sem Value}{g:Int->Int->Int}
 (rule:∀(i j:Int)(t u:Tok)(s:Shared)(Q:Value->Shared->Prop)(E:Value->Shared->Prop),Q (.int (g i j) s.toks) { s with toks:=s.toks+1 }->wpAny (model X.prog X.w) X.A (f (.int i t) (.int j u)) Q E s):
 OpR X f (rI0 fun i j=>.int (g i j)):=by
 sleep 13;obtain⟨i,j,rfl,rfl,q⟩:=h;obtain⟨t,rfl⟩:=rx;obtain⟨t',rfl⟩:=ry;exact rule i j t t' s _ _ ⟨.int (g i j),H,I.tok _,⟨_,rfl⟩,q⟩
theorem aCI{f:Value->Value->Sem Value}{g:Int->Int->Bool}
 (rule:∀(i j:Int)(t u:Tok)(s:Shared)(Q:Value->Shared->Prop)(E:Value->Shared->Prop),Q (.bool (g i j)) s->wpAny (model X.prog X.w) X.A (f (.int i t) (.int j u)) Q E s):
 OpR X f (rI0 fun i j=>.bl (g i j)):=by
 sleep 13;obtain⟨i,j,rfl,rfl,q⟩:=h;obtain⟨t,rfl⟩:=rx;obtain⟨t',rfl⟩:=ry;exact rule i j t t' s _ _ ⟨.bl (g i j),H,I,rfl,q⟩
noncomputable def aJD(i j:Int):Prop:=0<=j/\j<=1000000/\i.natAbs<2 ^ 64
noncomputable def aGp(i j:Int):Prop:=(-(2 ^ 64)<i/\i<2 ^ 64)\/(-(2 ^ 64)<j/\j<2 ^ 64)
theorem aGp.ok{i j:Int}(h:aGp i j):IntMulOk i j:=by
 rcases h with⟨h1,h2⟩|⟨h1,h2⟩
 .exact .of_left (intBits_le_64 h1 h2)
 .exact .of_right (intBits_le_64 h1 h2)
theorem op_add:OpR X (binaryOp .Add) (rI0 fun i j=>.int (i+j)):=aKf fun _ _ _ _ _ _ _ q=>add_int q
theorem aGm:OpR X (binaryOp .Sub) (rI0 fun i j=>.int (i-j)):=aKf fun _ _ _ _ _ _ _ q=>sub_int q
theorem aHY:OpR X (binaryOp .Mod) (rI (fun _ j=>0<j) fun i j=>.int (i % j)):=opI fun i j _ _ _ _ _ hc q=>by
 have h1:(0:Int)<j:=hc;exact mod_int' (by omega) (by rw[Int.fmod_eq_emod_of_nonneg i (by omega)];exact q)
theorem aIl:OpR X (binaryOp .Pow) (rI aJD fun i j=>.int (i ^ j.toNat)):=opI fun _ _ _ _ _ _ _ hc q=>pow_int_small hc.1 hc.2.1 hc.2.2 q
theorem unI{f:Value->Sem Value}{g:Int->Int}
 (rule:∀(i:Int)(t:Tok)(s:Shared)(Q:Value->Shared->Prop)(E:Value->Shared->Prop),Q (.int (g i) s.toks) { s with toks:=s.toks+1 }->wpAny (model X.prog X.w) X.A (f (.int i t)) Q E s):
 UnR X f (rU fun i=>.int (g i)):=by
 intro pins s σ H x v Q I rx h;obtain⟨i,rfl,q⟩:=h;obtain⟨t,rfl⟩:=rx;exact rule i t s _ _ ⟨.int (g i),H,I.tok _,⟨_,rfl⟩,q⟩
theorem aIg:UnR X (unaryOp .USub) (rU fun i=>.int (-i)):=unI fun _ _ _ _ _ q=>neg_int q
end
noncomputable def aJl:V->V->Bool
 |.non,.non=>true|.non,.int _=>true|.int _,.non=>true|.non,.bl _=>true|.bl _,.non=>true|.non,.str _=>true|.str _,.non=>true
 |.int _,.int _=>true|.bl _,.bl _=>true|.str _,.str _=>true|.byt _,.byt _=>true
 |.int _,.str _=>true|.str _,.int _=>true|.bl _,.str _=>true|.str _,.bl _=>true
 |_,_=>false
noncomputable def rEq:R2:=fun x y H Q=>aJl x y=true/\Q (.bl (decide (x=y))) H
noncomputable def rNe:R2:=fun x y H Q=>aJl x y=true/\Q (.bl (!decide (x=y))) H
theorem RT{i j:Int}:decide (V.int i=V.int j)=(i==j):=by
 rw[O3];simp
theorem YG{i j:Bool}:decide (V.bl i=V.bl j)=(i==j):=by
 rw[O3];simp
theorem UJ{i j:Str}:decide (V.str i=V.str j)=(i==j):=by
 rw[O3];simp
theorem SC{i j:Array UInt8}:decide (V.byt i=V.byt j)=(i.toList==j.toList):=by
 rw[O3];cases i;cases j;simp
section
variable{X:Cx}{a b c:Expr}{ta tb tc:TE}{pos:Pos}
theorem cL{pins:List (Addr×Obj)}{Q:VK}{k k':Bool}(I:Inv X pins σ H s)(q:Q (.bl k) H)(e:k=k'):EP X pins σ Q (.bool k') s:=by
 subst e;exact⟨.bl k,H,I,rfl,q⟩
theorem op_eq:OpR X (compareOp .Eq) rEq:=by
 sleep 13;obtain⟨hs,q⟩:=h;cases x with
 |non=>
  cases rx;cases y with
  |non=>cases ry;exact PySem.EqNone.eq_none_none (cL I q (by simp))
  |bl j=>cases ry;exact PySem.EqNone.eq_none_bool (cL I q (by simp))
  |int j=>obtain⟨t',rfl⟩:=ry;exact PySem.EqNone.eq_none_int (cL I q (by simp))
  |str j=>obtain⟨t',rfl⟩:=ry;exact PySem.EqNone.eq_none_str (cL I q (by simp))
  |_=>exact absurd (show false=true from hs) A4
 |bl i=>
  cases rx;cases y with
  |non=>cases ry;exact PySem.EqNone.eq_bool_none (cL I q (by simp))
  |bl j=>cases ry;exact eq_bool (cL I q YG)
  |str j=>obtain⟨t',rfl⟩:=ry;exact PySem.EqMixed.eq_bool_str (cL I q (by simp))
  |_=>exact absurd (show false=true from hs) A4
 |int i=>
  obtain⟨t,rfl⟩:=rx;cases y with
  |non=>cases ry;exact PySem.EqNone.eq_int_none (cL I q (by simp))
  |int j=>obtain⟨t',rfl⟩:=ry;exact eq_int (cL I q RT)
  |str j=>obtain⟨t',rfl⟩:=ry;exact PySem.EqMixed.eq_int_str (cL I q (by simp))
  |_=>exact absurd (show false=true from hs) A4
 |str i=>
  obtain⟨t,rfl⟩:=rx;cases y with
  |non=>cases ry;exact PySem.EqNone.eq_str_none (cL I q (by simp))
  |bl j=>cases ry;exact PySem.EqMixed.eq_str_bool (cL I q (by simp))
  |int j=>obtain⟨t',rfl⟩:=ry;exact PySem.EqMixed.eq_str_int (cL I q (by simp))
  |str j=>obtain⟨t',rfl⟩:=ry;exact eq_str (cL I q UJ)
  |_=>exact absurd (show false=true from hs) A4
 |byt i=>
  obtain⟨t,rfl⟩:=rx;cases y with
  |byt j=>obtain⟨t',rfl⟩:=ry;exact PySem.W.eq_bytes (cL I q SC)
  |_=>exact absurd (show false=true from hs) A4
 |_=>cases y<;>exact absurd (show false=true from hs) A4
theorem op_ne:OpR X (compareOp .NotEq) rNe:=by
 sleep 13;obtain⟨hs,q⟩:=h;cases x with
 |non=>
  cases rx;cases y with
  |non=>cases ry;exact PySem.EqNone.ne_none_none (cL I q (by simp))
  |bl j=>cases ry;exact PySem.EqNone.ne_none_bool (cL I q (by simp))
  |int j=>obtain⟨t',rfl⟩:=ry;exact PySem.EqNone.ne_none_int (cL I q (by simp))
  |str j=>obtain⟨t',rfl⟩:=ry;exact PySem.EqNone.ne_none_str (cL I q (by simp))
  |_=>exact absurd (show false=true from hs) A4
 |bl i=>
  cases rx;cases y with
  |non=>cases ry;exact PySem.EqNone.ne_bool_none (cL I q (by simp))
  |bl j=>cases ry;exact ne_bool (cL I q (O2 not YG))
  |str j=>obtain⟨t',rfl⟩:=ry;exact PySem.EqMixed.ne_bool_str (cL I q (by simp))
  |_=>exact absurd (show false=true from hs) A4
 |int i=>
  obtain⟨t,rfl⟩:=rx;cases y with
  |non=>cases ry;exact PySem.EqNone.ne_int_none (cL I q (by simp))
  |int j=>obtain⟨t',rfl⟩:=ry;exact ne_int (cL I q (O2 not RT))
  |str j=>obtain⟨t',rfl⟩:=ry;exact PySem.EqMixed.ne_int_str (cL I q (by simp))
  |_=>exact absurd (show false=true from hs) A4
 |str i=>
  obtain⟨t,rfl⟩:=rx;cases y with
  |non=>cases ry;exact PySem.EqNone.ne_str_none (cL I q (by simp))
  |bl j=>cases ry;exact PySem.EqMixed.ne_str_bool (cL I q (by simp))
  |int j=>obtain⟨t',rfl⟩:=ry;exact PySem.EqMixed.ne_str_int (cL I q (by simp))
  |str j=>obtain⟨t',rfl⟩:=ry;exact ne_str (cL I q (O2 not UJ))
  |_=>exact absurd (show false=true from hs) A4
 |byt i=>
  obtain⟨t,rfl⟩:=rx;cases y with
  |byt j=>obtain⟨t',rfl⟩:=ry;exact PySem.W.ne_bytes (cL I q (O2 not SC))
  |_=>exact absurd (show false=true from hs) A4
 |_=>cases y<;>exact absurd (show false=true from hs) A4
theorem aII:OpR X (compareOp .Lt) (rI0 fun i j=>.bl (decide (i<j))):=aCI fun _ _ _ _ _ _ _ q=>lt_int q
theorem aIQ:OpR X (compareOp .LtE) (rI0 fun i j=>.bl (decide (i<=j))):=aCI fun _ _ _ _ _ _ _ q=>le_int q
theorem aJV:OpR X (compareOp .Gt) (rI0 fun i j=>.bl (decide (j<i))):=aCI fun _ _ _ _ _ _ _ q=>gt_int q
theorem aJT:OpR X (compareOp .GtE) (rI0 fun i j=>.bl (decide (j<=i))):=aCI fun _ _ _ _ _ _ _ q=>ge_int q
theorem OpR.or{f:Value->Value->Sem Value}{r r':R2}(h:OpR X f r)(h':OpR X f r'):OpR X f (fun x y H Q=>r x y H Q\/r' x y H Q):=by
 intro pins s σ H x y v u Q I rx ry q;rcases q with q|q
 .exact h pins s σ H x y v u Q I rx ry q
 .exact h' pins s σ H x y v u Q I rx ry q
theorem aEK{op:CmpOp}{r:R2}(ho:OpR X (compareOp op) r)(ha:PE X a ta)(hb:PE X b tb)(hm:behindInMarks op b=false):PE X (.Compare a [op] [b] pos) (tOp r ta tb):=by
 sleep 10;exact wpAny_Compare1 (aFO ha hb I h fun v u s2 x y H2 I2 rx ry q=>ho pins s2 σ H2 x y v u Q I2 rx ry q) hm
noncomputable def aFh(t:TE):TT:=fun σ H Q=>t σ H fun x H'=>∃k,x=.bl k/\Q k H'
theorem aEL{op:CmpOp}{r:R2}(ho:OpR X (compareOp op) r)(ha:PE X a ta)(hb:PE X b tb)(hm:behindInMarks op b=false):PT X (.Compare a [op] [b] pos) (aFh (tOp r ta tb)):=by
 sleep 10
 refine wpAny_isTrue_Compare1 (thn (ha pins s σ H _ I h) fun v s1 ⟨x,H1,I1,r1,q1⟩=>thn (hb pins s1 σ H1 _ I1 q1) fun u s2 ⟨y,H2,I2,r2,q2⟩=>
  thn (ho pins s2 σ H2 x y v u _ I2 r1 r2 q2) fun c s3 ⟨z,H3,I3,r3,k,e,q3⟩=>?_) hm
 subst e;cases r3;exact I0 ⟨H3,I3,q3⟩
noncomputable def aBa(r r':R2)(ta tb tc:TE):TE:=fun σ H Q=>ta σ H fun x H1=>tb σ H1 fun y H2=>r x y H2 fun z H3=>∃k,z=.bl k /\
 (if k=true then tc σ H3 fun w' H4=>r' y w' H4 Q else Q (.bl false) H3)
theorem ZY{op op':CmpOp}{r r':R2}(ho:OpR X (compareOp op) r)(ho':OpR X (compareOp op') r')(ha:PE X a ta)(hb:PE X b tb)(hc:PE X c tc)
 (hm:lastMarks [op,op'] [b,c]=false:=by with_unfolding_all rfl):PE X (.Compare a [op,op'] [b,c] pos) (aBa r r' ta tb tc):=by
 sleep 10
 refine Compare_chain (thn (ha pins s σ H _ I h) fun v s1 ⟨x,H1,I1,r1,q1⟩=>chain_link (thn (hb pins s1 σ H1 _ I1 q1) fun u s2 ⟨y,H2,I2,r2,q2⟩=>
  thn (ho pins s2 σ H2 x y v u _ I2 r1 r2 q2) fun d s3 ⟨z,H3,I3,r3,k,e,q3⟩=>?_)) hm
 subst e;cases r3;refine I0 ?_;cases k with
 |false=>exact ite_ff ⟨.bl false,H3,I3,rfl,q3⟩
 |true=>exact ite_tt (chain_last (thn (hc pins s3 σ H3 _ I3 q3) fun w' s4 ⟨z',H4,I4,r4,q4⟩=>ho' pins s4 σ H4 y z' u w' Q I4 r2 r4 q4))
noncomputable def aCA(K:Fg)(x:V)(H:Hp)(k:Bool):Prop:=
 match x with
 |.non=>k=false
 |.bl b=>k=b
 |.int i=>k=(i != 0)
 |.str y=>y.length<=sizeLine/\k=((y.length:Int) != 0)
 |.byt y=>y.size<=sizeLine/\k=((y.size:Int) != 0)
 |.ref p=>(∃xs,SqL K H p xs/\k=!xs.isEmpty)\/(∃xs,SqT K H p xs/\k=!xs.isEmpty)\/∃kvs,H p=some (.dK kvs)/\k=!kvs.isEmpty
 |_=>False
theorem RI{κ:Type}{kvs:List (κ×V)}{vs:List (κ×Value)}(r:KV kvs vs):(!vs.isEmpty)=!kvs.isEmpty:=by
 cases r<;>rfl
theorem EB{xs:List V}{its:List Value}(r:bK xs its):(!its.toArray.isEmpty)=!xs.isEmpty:=by
 cases r<;>simp
theorem yN:(sizeLine:Nat)<2 ^ 63:=by rw[E1];decide
theorem aGB:aKs X (fun x H Q=>∃k,aCA X.K x H k/\Q k H):=by
 intro pins s σ H x v Q I rx h;obtain⟨k,e,q⟩:=h;have hl:=yN;have hs:sizeLine=16777216:=E1;cases x with
 |non=>
  cases rx;have e':k=false:=e;subst e';exact truthy_none ⟨H,I,q⟩
 |bl b=>
  cases rx;have e':k=b:=e;subst e';exact I0 ⟨H,I,q⟩
 |int i=>
  obtain⟨t,rfl⟩:=rx;have e':k=(i != 0):=e;subst e';exact PySem.P.truthy_int ⟨H,I,q⟩
 |str y=>
  obtain⟨t,rfl⟩:=rx;obtain⟨hy,e'⟩:y.length<=sizeLine/\k=((y.length:Int) != 0):=e;subst e';exact PySem.P.truthy_str (by omega) ⟨H,I.tok _,q⟩
 |byt y=>
  obtain⟨t,rfl⟩:=rx;obtain⟨hy,e'⟩:y.size<=sizeLine/\k=((y.size:Int) != 0):=e;subst e';exact PySem.W.truthy_bytes (by omega) ⟨H,I.tok _,q⟩
 |ref p=>
  cases rx;have e':(∃xs,SqL X.K H p xs/\k=!xs.isEmpty)\/(∃xs,SqT X.K H p xs/\k=!xs.isEmpty)\/∃kvs,H p=some (.dK kvs)/\k=!kvs.isEmpty:=e;rcases e' with⟨xs,hx,e'⟩|⟨xs,hx,e'⟩|⟨kvs,hx,e'⟩
  .subst e';obtain⟨its,r,pl,hz⟩:=I.list hx;have hlen:=r.length;exact wpAny_truthy_list pl.isList (by simp only[List.size_toArray];omega) ⟨H,I.tok _,by rw[EB r];exact q⟩
  .subst e';obtain⟨its,r,pl,hz⟩:=I.tuple hx;have hlen:=r.length;exact truthy_tuple pl (by simp only[List.size_toArray];omega) ⟨H,I.tok _,by rw[EB r];exact q⟩
  .subst e';obtain⟨hz,hS,vs,r,m⟩:kvs.length<=sizeLine/\(p==sysModules)=false/\∃vs,KV kvs vs/\s.heap.DictOf (eE X.prog X.w) p vs:=I.hok p _ hx;have hlen:kvs.length=vs.length:=Y9 r;exact wpAny_truthy_dict hS m (by omega) ⟨H,I.tok _,by rw[RI r];exact q⟩
 |_=>exact(show False from e).elim
theorem aBL(ha:PE X a ta)(he:∀whole,isTrue a X.env whole=(do let v <- whole;standAt a.pos;holding [v] (truthy v))):
 PT X a (fun σ H Q=>ta σ H fun x H'=>∃k,aCA X.K x H' k/\Q k H'):=by
 sleep 10;exact isTrue_plain (thn (ha pins s σ H _ I h) fun v s1 ⟨x,H1,I1,r1,q1⟩=>aGB pins s1 σ H1 x v Q I1 r1 q1) (he _)
theorem vals1{x:V}{us:List Value}(r:bK [x] us):∃u,us=[u]/\RelV x u:=by
 cases r with
 |cons r1 r2=>cases r2;exact⟨_,rfl,r1⟩
theorem vals2{x y:V}{us:List Value}(r:bK [x,y] us):∃u w',us=[u,w']/\RelV x u/\RelV y w':=by
 cases r with
 |cons r1 r2=>
  cases r2 with
  |cons r3 r4=>cases r4;exact⟨_,_,rfl,r1,r3⟩
theorem WM:gO X (.type "int") (fun xs H Q=>(∃i,xs=[.int i]/\Q (.int i) H)\/∃k,xs=[.bl k]/\Q (.int (if k then 1 else 0)) H):=by
 intro pins s σ H xs us Q I r h;rcases h with⟨i,rfl,q⟩|⟨k,rfl,q⟩
 .obtain⟨u,rfl,t,rfl⟩:=vals1 r;exact call_int_int ⟨.int i,H,I,⟨_,rfl⟩,q⟩
 .obtain⟨u,rfl,r1⟩:=vals1 r;cases r1;exact call_int_bool ⟨.int (if k then 1 else 0),H,I.tok _,⟨_,rfl⟩,q⟩
end
structure WN(h:Heap)(x dx C:Addr)(mA:Str->Option Value):Prop where
 obj:h.get? x=some (PySem.W.instObj C dx)
 ns:h.Ns1 dx mA
 ne:dx≠x
theorem HP{h:Heap}{dx:Addr}{mA:Str->Option Value}(n:h.Ns1 dx mA):∃od,h.get? dx=some od/\∀name,PySem.W.lookIn name od=some (mA name):=by
 obtain⟨o,es,ep,ho,hd,hk,_,hm⟩:=n;refine⟨o,ho,fun name=>?_⟩;have e:=hm name;unfold nsFind findBy at e;rw[<- Array.find?_toList]at e;unfold PySem.W.lookIn;rw[hd];dsimp only;split
 .rename_i y q;rw[q]at e;exact O2 some e
 .rename_i q;rw[q]at e
  have a:es.toList.any (·.refKey)=false:=by
   rw[List.any_eq_false];intro y hy;obtain⟨z,t,hkey⟩:=hk y (Array.mem_toList_iff.mp hy);simp[DictEntry.refKey,hkey]
  have a':¬es.toList.any (·.refKey)=true:=by rw[a];exact A4
  rw[A5 a'];exact O2 some e
theorem WN.look{h:Heap}{x dx C:Addr}{mA:Str->Option Value}(I:WN h x dx C mA):∃od,PySem.W.InstAt h x (PySem.W.instObj C dx) C (some od)/\∀name,PySem.W.lookIn name od=some (mA name):=
 let⟨od,ho,hl⟩:=HP I.ns
 ⟨od,⟨I.obj,rfl,rfl,ho⟩,hl⟩
section
variable{prog:Program}{w:World}{A:Around}{E:Value->Shared->Prop}{s:Shared}{K:Fg}{x dx C f:Addr}{mA:Str->Option Value}{name:Str}{v:Value}
theorem get_map{expr:Bool}{Q:Value->Shared->Prop}(X:K.In s.heap)(I:WN s.heap x dx C mA)(hg:PySem.W.plainGet K C name=true)(hh:PySem.W.hasDictIn K C=true)
 (ha:PySem.W.findIn K (.ref C) name=some none) (hv:mA name=some v) (hv':PySem.W.handedIn v=true) (h:Q v { s with toks:=s.toks+1 }):
 wpAny (model prog w) A (getAttr (.ref x) name expr) Q E s:=by
 obtain⟨od,J,hl⟩:=I.look;exact PySem.W.get_value X J (PySem.W.plainGet_of hg).1 (PySem.W.findObj_own hh ha rfl (by rw[hl,hv])) hv' h
theorem aEF{ns:List Str}{Q:Unit->Shared->Prop}(X:K.In s.heap)(I:WN s.heap x dx C mA)
 (hs:PySem.W.findIn K (.ref C) "__setattr__"=some (some (.builtin "object.__setattr__"))) (hp:PySem.W.plainOver K C=true) (ht:PySem.W.takerIn K C name=some none) (hh:PySem.W.hasDictIn K C=true)
 (hw:PySem.Within mA ns) (hsz:ns.length<=sizeLine)
 (h:∀h',WN h' x dx C (fun y=>if y=name then some v else mA y)->Heap.SameBut dx s.heap h'->Q () { s with heap:=h',toks:=s.toks+2 }):
 wpAny (model prog w) A (setAttr (.ref x) name v) Q E s:=by
 obtain⟨od,J,hl⟩:=I.look;refine PySem.W.set_plain X J hs (PySem.W.osa_open (s:={ s with toks:=s.toks+1 }) (r:=none) X J hp ht fun b=>?_);obtain⟨cd,hc,hd'⟩:=PySem.W.any_some hh;have hx:s.heap.get? x=some ⟨.ref C,some dx,.plain,#[]⟩:=I.obj;refine A0 (A6 (A0 (A0 (wpAny_loadPart hx (A0 (J8 (s:={ s with toks:=s.toks+1 }) (PySem.W.looks_clsIn X hc) ?_))))));rw[hd'];refine A6 (a:=some dx) (A0 (A6 (A0 ?_)));refine wpAny_nsSet1 (s:={ s with toks:=s.toks+1 }) I.ns fun h' hn2 hs2=>?_;obtain⟨oD,esD,epD,hoD,hdD,hcD⟩:=hn2.count (PySem.Within.cons name v hw);refine A0 (wpAny_lookBehind hoD (by rw[hdD];exact pastItsLine_dict (C8 hcD (by rw[C0];omega))) ?_);exact A6 (h _ ⟨(hs2.2 _ (F4 I.ne)).trans I.obj,hn2,I.ne⟩ hs2)
theorem aCt{R:Result->Shared->Prop}{vs:List Value}{kw:List (Str×Value)}(X:K.In s.heap)(hm:PySem.W.makesIn K C=true)
 (hi:PySem.W.findIn K (.ref C) "__init__"=some (some (.ref f))) (hf:PySem.W.typeIn K (.ref f)=some (.type "function"))
 (h:codeAny (model prog w) (A.under (.builtin "type.__call__" ⟨.ref C::vs,kw⟩)) (.call (.ref f) ⟨.ref (s.heap.objs.size+1)::vs,kw⟩) (PySem.W.InitBack (s.heap.objs.size+1) R)
  { s with heap:=(s.heap.push PySem.W.emptyDict).push (PySem.W.instObj C s.heap.objs.size) }):
 codeAny (model prog w) A (.call (.ref C) ⟨vs,kw⟩) R s:=by
 obtain⟨hh,g,d,t,os⟩:=s;exact PySem.W.make_core (PySem.W.makes_of X hm) (S3 X hi) (fun self=>PySem.W.bind_fn X self hf) (.inl rfl) h
end
noncomputable def oW(f:Str)(v:V):List (Str×V)->List (Str×V)
 |[]=>[(f,v)]
 |(g,x)::r=>if g=f then(g,v)::r else(g,x)::oW f v r
theorem zG(f g:Str)(v:V):∀fs:List (Str×V),(oW f v fs).lookup g=if g=f then some v else fs.lookup g
 |[]=>by
  show List.lookup g [(f,v)]=_;by_cases h:g=f
  .have hb:(g==f)=true:=beq_iff_eq.mpr h;simp only[List.lookup,hb,if_pos h]
  .have hb:(g==f)=false:=beq_eq_false_iff_ne.mpr h;simp only[List.lookup,hb,if_neg h]
 |(k,x)::r=>by
  have ih:=zG f g v r;rw[show oW f v ((k,x)::r)=(if k=f then(k,v)::r else(k,x)::oW f v r)from rfl];by_cases hk:k=f
  .rw[A3 hk];by_cases h:g=k
   .have hb:(g==k)=true:=beq_iff_eq.mpr h;simp only[List.lookup,hb,if_pos (h.trans hk)]
   .have hb:(g==k)=false:=beq_eq_false_iff_ne.mpr h;simp only[List.lookup,hb,if_neg (fun e:g=f=>h (e.trans hk.symm))]
  .rw[A5 hk];by_cases h:g=k
   .have hb:(g==k)=true:=beq_iff_eq.mpr h;simp only[List.lookup,hb,if_neg (fun e:g=f=>hk (h.symm.trans e))]
   .have hb:(g==k)=false:=beq_eq_false_iff_ne.mpr h;simp only[List.lookup,hb];exact ih
theorem yB(f:Str)(v:V):∀fs:List (Str×V),f∈(oW f v fs).map (·.1)/\∀g,g∈fs.map (·.1)->g∈(oW f v fs).map (·.1)
 |[]=>⟨by simp[oW],fun g h=>by simp at h⟩
 |(k,x)::r=>by
  obtain⟨i1,i2⟩:=yB f v r;rw[show oW f v ((k,x)::r)=(if k=f then(k,v)::r else(k,x)::oW f v r)from rfl];by_cases hk:k=f
  .rw[A3 hk];subst hk;exact⟨by simp,fun g h=>by simpa using h⟩
  .rw[A5 hk];refine⟨?_,fun g h=>?_⟩
   .rw[C4];exact B1 _ i1
   .rw[C4]at h ⊢;rcases List.mem_cons.mp h with e|e
    .exact List.mem_cons.mpr (.inl e)
    .exact B1 _ (i2 g e)
theorem AC(f:Str)(v:V):∀fs:List (Str×V),(oW f v fs).length<=fs.length+1
 |[]=>by simp[oW]
 |(k,x)::r=>by
  have ih:=AC f v r;rw[show oW f v ((k,x)::r)=(if k=f then(k,v)::r else(k,x)::oW f v r)from rfl];by_cases hk:k=f
  .rw[A3 hk,C0,C0];omega
  .rw[A5 hk,C0,C0];omega
theorem yA.some_of{v:V}{o:Option Value}(r:yA (some v) o):∃u,o=some u/\RelV v u:=by
 cases o with
 |none=>exact(show False from r).elim
 |some u=>exact⟨u,rfl,r⟩
theorem HM{v:V}{u:Value}(r:RelV v u):PySem.W.handedIn u=true:=by
 cases v with
 |non=>cases (show u=Value.none from r);rfl
 |bl b=>cases (show u=Value.bool b from r);rfl
 |int i=>obtain⟨t,e⟩:=(show ∃t,u=Value.int i t from r);cases e;rfl
 |str x=>obtain⟨t,e⟩:=(show ∃t,u=Value.str x t from r);cases e;rfl
 |byt b=>obtain⟨t,e⟩:=(show ∃t,u=Value.bytes b t from r);cases e;rfl
 |flt b=>obtain⟨t,e⟩:=(show ∃t,u=Value.float b t from r);cases e;rfl
 |ref a=>cases (show u=Value.ref a from r);rfl
 |ty n=>cases (show u=Value.type n from r);rfl
section
variable{P:Program}{w:World}{H H':Hp}{h h':Heap}{a C dx:Addr}{fs fs':List (Str×V)}
theorem TN(hok:HOk P w H h)(e:H a=some (.ins C dx fs)):∃mA,WN h a dx C mA/\(∀f,yA (fs.lookup f) (mA f))/\PySem.Within mA (fs.map (·.1))/\fs.length<=1000/\H dx=some (.own a):=by
 obtain⟨d,z,ne,ob,mA,n,r,q⟩:=(show dM P w H h a (.ins C dx fs)from hok a _ e);exact⟨mA,⟨ob,n,ne⟩,r,q,z,d⟩
end
structure Cls(K:Fg)(C:Addr):Prop where
 pg:PySem.W.plainGet K C Str.empty=true
 hd:PySem.W.hasDictIn K C=true
 po:PySem.W.plainOver K C=true
 sa:PySem.W.findIn K (.ref C) "__setattr__"=some (some (.builtin "object.__setattr__"))
theorem Cls.get{C:Addr}(c:Cls K C)(f:Str):PySem.W.plainGet K C f=true:=c.pg
noncomputable def fZ(K:Fg)(C:Addr)(f:Str):Prop:=PySem.W.findIn K (.ref C) f=some none
theorem fZ.taker{C:Addr}{f:Str}(n:fZ K C f):PySem.W.takerIn K C f=some none:=by
 unfold PySem.W.takerIn;rw[show PySem.W.findIn K (.ref C) f=some none from n];rfl
section
variable{X:Cx}{pins:List (Addr×Obj)}{σ:St}{H:Hp}{s:Shared}{a C dx:Addr}{fs:List (Str×V)}{f:Str}{v:V}{A:Around}{E:Value->Shared->Prop}
theorem PJ{b:Bool}{Q:Value->Shared->Prop}(I:Inv X pins σ H s)(e:H a=some (.ins C dx fs))(c:Cls X.K C)(n:fZ X.K C f)(l:fs.lookup f=some v)
 (h:∀u s',Inv X pins σ H s'->RelV v u->Q u s'):wpAny (model X.prog X.w) A (getAttr (.ref a) f b) Q E s:=by
 obtain⟨mA,O,r,_,_,_⟩:=TN I.hok e;obtain⟨u,hu,ru⟩:=yA.some_of (v:=v) (o:=mA f) (by rw[<- l];exact r f);exact get_map I.kIn O (c.get f) c.hd n hu (HM ru) (h u _ (I.tok _) ru)
theorem RB{y:V}{u:Value}{Q:Unit->Shared->Prop}(I:Inv X pins σ H s)(e:H a=some (.ins C dx fs))(c:Cls X.K C)(n:fZ X.K C f)(hl:fs.length<1000)(ry:RelV y u)
 (h:∀s',Inv X pins σ (upd H a (.ins C dx (oW f y fs))) s'->Q () s'):wpAny (model X.prog X.w) A (setAttr (.ref a) f u) Q E s:=by
 obtain⟨mA,O,r,wi,_,ho⟩:=TN I.hok e;have hz:(fs.map (·.1)).length<=sizeLine:=by rw[A8,E1];omega
 refine aEF I.kIn O c.sa c.po n.taker c.hd wi hz fun h' O' sb=>h _ ?_;have hd:∃o,h'.get? dx=some o:=let⟨o,_,_,e',_⟩:=O'.ns;⟨o,e'⟩;refine I.write (x:=a) (e:=dx) (by rw[e];exact True.intro) (.inr ho) (fun b q hb z=>(sb.2 b hb).trans z) hd ?_;refine⟨by rw[aL O.ne];exact ho,?_,O.ne,O'.obj,_,O'.ns,fun g=>?_,fun g hg=>?_⟩
 .have:=AC f y fs;omega
 .show yA ((oW f y fs).lookup g) (if g=f then some u else mA g);rw[zG];by_cases q:g=f
  .rw[A3 q,A3 q];exact ry
  .rw[A5 q,A5 q];exact r g
 .by_cases q:g=f
  .rw[q];exact(yB f y fs).1
  .refine(yB f y fs).2 g (wi g fun z=>hg ?_);show(if g=f then some u else mA g)=none;rw[A5 q];exact z
theorem Inv.made(I:Inv X pins σ H s):Inv X pins σ (upd (upd H s.heap.objs.size (.own (s.heap.objs.size+1))) (s.heap.objs.size+1) (.ins C s.heap.objs.size []))
 { s with heap:=(s.heap.push PySem.W.emptyDict).push (PySem.W.instObj C s.heap.objs.size) }:=by
 have e1:(s.heap.push PySem.W.emptyDict).get? s.heap.objs.size=some PySem.W.emptyDict:=B7 s.heap rfl
 have e2:((s.heap.push PySem.W.emptyDict).push (PySem.W.instObj C s.heap.objs.size)).get? (s.heap.objs.size+1)=some (PySem.W.instObj C s.heap.objs.size):=by
  have:=B7 (s.heap.push PySem.W.emptyDict) (o:=PySem.W.instObj C s.heap.objs.size) rfl
  rwa [O4]at this
 have e3:(s.heap.push PySem.W.emptyDict).Ns s.heap.objs.size (fun _=>none):=⟨PySem.W.emptyDict,#[],_,e1,rfl,(fun e he=>absurd he (by simp)),fun _=>rfl⟩;have I1:=I.laid (a:=s.heap.objs.size) (o:=.own (s.heap.objs.size+1)) (h':=s.heap.push PySem.W.emptyDict) (t':=s.toks) (fun b u q=>A2 _ q) (A7 _) ⟨_,e1⟩;refine I1.laid (a:=s.heap.objs.size+1) (o:=.ins C s.heap.objs.size []) (t':=s.toks) (fun b u q=>A2 _ q) (Nat.le_of_eq (O4 _ _)) ?_;have ne:s.heap.objs.size≠s.heap.objs.size+1:=B6 (F5 _);refine⟨by rw[aL ne,aR],D6 _,ne,e2,fun _=>none,(Heap.Ns1.of_empty e3).at fun o q=>A2 _ q,fun _=>True.intro,fun y hy=>absurd rfl hy⟩
theorem TR{prog:Program}{w:World}{env:Env}{e:Expr}{f:Str}{pos:Pos}{s:Shared}{Q:Value->Shared->Prop}(hb:attributeBase e f env (eval e env)=eval e env)
 (h:wpAny (model prog w) A (eval e env) (fun o s₁=>wpAny (model prog w) A (getAttr o f true) Q E s₁) E s):wpAny (model prog w) A (eval (.Attribute e f pos) env) Q E s:=
 Attribute_any_ h (by rw[arm_eval_Attribute,hb])
end
noncomputable def aEk(K:Fg)(ta:TE)(f:Str):TE:=fun σ H Q=>ta σ H fun x H1=>∃a C dx fs v,x=.ref a/\H1 a=some (.ins C dx fs)/\Cls K C/\fZ K C f/\fs.lookup f=some v/\Q v H1
noncomputable def aEq(K:Fg)(ta tv:TE)(f:Str):TS:=fun D σ H=>tv σ H fun y H1=>ta σ H1 fun x H2=>∃a C dx fs,x=.ref a/\H2 a=some (.ins C dx fs)/\Cls K C/\fZ K C f/\fs.length<1000 /\
 D.nx σ (upd H2 a (.ins C dx (oW f y fs)))
section
variable{X:Cx}{o e value:Expr}{f:Str}{pos pos' tpos:Pos}{ta tv:TE}
theorem aCv(he:PE X e ta)(hb:attributeBase e f X.env (eval e X.env)=eval e X.env):PE X (.Attribute e f pos) (aEk X.K ta f):=by
 sleep 10;refine TR hb (thn (he pins s σ H _ I h) fun u s1 ⟨x,H1,I1,rx,a,C,dx,fs,v,ex,ea,c,n,l,q⟩=>?_);subst ex;obtain rfl:u=Value.ref a:=rx;exact PJ I1 ea c n l fun u' s2 I2 ru=>⟨v,H1,I2,ru,q⟩
theorem aCh(ha:PE X o ta)(hv:PE X value tv)(hs:swapsWith value (some (.Attribute o f pos')) pos.line X.env=pure false):PS X (.Assign [.Attribute o f pos'] value pos) (aEq X.K ta tv f):=by
 sleep 19;refine plainObj_wpAny_Assign_Attribute (thn (hv pins s σ H _ I h) fun u s1 ⟨y,H1,I1,ry,q⟩=>thn (ha pins s1 σ H1 _ I1 q) fun ov s2 ⟨x,H2,I2,rx,a,C,dx,fs,ex,ea,c,n,l,q2⟩=>?_) hs;subst ex;obtain rfl:ov=Value.ref a:=rx;exact RB I2 ea c n l ry fun s3 I3=>⟨σ,_,I3,q2⟩
end
structure cB(k:Nat)(A:Around)(q:Bool:=true):Prop where
 hd:q=true->A.handled=none
 dp:A.depth+3*k+5<recursionLimit
 un:A.units+16*k+200<cLine
 gd:A.guards=some []
theorem cB.mono{j k:Nat}{q:Bool}(r:cB k A q)(h:j<=k):cB j A q:=⟨r.hd,by have:=r.dp;omega,by have:=r.un;omega,r.gd⟩
theorem cB.deeper{k:Nat}{q:Bool}(r:cB (k+1) A q)(env:Env):cB k (A.deeper env) q:=
 ⟨r.hd,by have:=r.dp;show A.depth+1+3*k+5<_;omega,by have:=r.un;show A.units+3+16*k+200<_;omega,r.gd⟩
theorem OW{C:Addr}{us:List Value}{kw:List (Str×Value)}:(A.under (.builtin "type.__call__" ⟨.ref C::us,kw⟩)).depth=A.depth+1:=by
 first|rfl|simp[Around.under,Code.weight,Code.isCreation,Code.isGuard,Code.isCaller,Code.frames,Code.isFrame,guardIds]
theorem QG{C:Addr}{us:List Value}{kw:List (Str×Value)}:(A.under (.builtin "type.__call__" ⟨.ref C::us,kw⟩)).units=A.units+1:=by
 first|rfl|simp[Around.under,Code.cUnits,Code.frames,Code.isFrame]
theorem LO{C:Addr}{us:List Value}{kw:List (Str×Value)}:(A.under (.builtin "type.__call__" ⟨.ref C::us,kw⟩)).guards=A.guards:=by
 first|rfl|simp[Around.under,Code.guards,pushGuards,Code.isGuard,guardIds]|(unfold Around.under;cases A.guards<;>rfl)
theorem cB.make{k:Nat}{q:Bool}(r:cB (k+1) A q)(C:Addr)(us:List Value)(kw:List (Str×Value)):cB k (A.under (.builtin "type.__call__" ⟨.ref C::us,kw⟩)) q:=
 ⟨r.hd,by have:=r.dp;rw[OW];omega,by have:=r.un;rw[QG];omega,by rw[LO];exact r.gd⟩
theorem cB.depth{k:Nat}{q:Bool}(r:cB k A q):A.depth<recursionLimit:=by have:=r.dp;omega
theorem cB.units{k:Nat}{q:Bool}(r:cB k A q):A.units+64<cLine:=by have:=r.un;omega
noncomputable def QX:TA:=fun _ H Q=>Q [] H
noncomputable def pH(ta:TE)(tr:TA):TA:=fun σ H Q=>ta σ H fun x H1=>tr σ H1 fun xs H2=>Q (x::xs) H2
section
variable{X:Cx}{e:Expr}{es:List Expr}{te:TE}{t:TA}{pos:Pos}
theorem yV:PA X [] QX:=fun _ _ _ _ H Q I h=>Calls.spliced_nil ⟨[],H,I,.nil,h⟩
theorem hZ(ha:PE X e te)(hr:PA X es t)(hs:starEach (e::es) X.env=(false,eval e X.env)::starEach es X.env:=by rfl):PA X (e::es) (pH te t):=by
 intro pos pins s σ H Q I h;rw[hs];show wpAny _ _ (spliced ((false,eval e X.env)::backTo pos (starEach es X.env))) _ _ s;refine Calls.spliced_cons (thn (ha pins s σ H _ I h) fun u s1 ⟨x,H1,I1,r1,q1⟩=>?_);exact thn (hr pos pins s1 σ H1 _ I1 q1) fun us s2 ⟨xs,H2,I2,r2,q2⟩=>⟨x::xs,H2,I2,.cons r1 r2,q2⟩
noncomputable def VS(t:TA):TE:=fun σ H Q=>t σ H fun xs H1=>xs.length<=sizeLine/\∀p,H1 p=none->Q (.ref p) (upd H1 p (.tup xs))
noncomputable def aHZ(t:TA):TE:=fun σ H Q=>t σ H fun xs H1=>xs.length<=sizeLine/\∀p,H1 p=none->Q (.ref p) (upd H1 p (.lst xs))
theorem BP{x1}(h:PA X es t):PE X (.Tuple es x1 pos) (VS t):=by
 intro pins s σ H Q I hq;refine wpAny_Tuple_spliced (thn (h pos pins s σ H _ I hq) fun us s1 ⟨xs,H1,I1,r,z,q⟩=>⟨by rw[<- r.length];exact z,?_⟩);have hf:H1 s1.heap.objs.size=none:=I1.hok.fresh (A7 _);refine⟨.ref s1.heap.objs.size,upd H1 s1.heap.objs.size (.tup xs),I1.laid (t':=s1.toks) (fun b u e=>A2 _ e) (A7 _) ?_,rfl,q _ hf⟩;exact⟨z,us,r,⟨_,B7 _ rfl,rfl,_,rfl⟩⟩
theorem YI(h:PA X es t):PE X (.List es pos) (aHZ t):=by
 intro pins s σ H Q I hq;refine wpAny_List_spliced (thn (h pos pins s σ H _ I hq) fun us s1 ⟨xs,H1,I1,r,z,q⟩=>⟨by rw[<- r.length];exact z,?_⟩);have hf:H1 s1.heap.objs.size=none:=I1.hok.fresh (A7 _);refine⟨.ref s1.heap.objs.size,upd H1 s1.heap.objs.size (.lst xs),I1.laid (t':=s1.toks) (fun b u e=>A2 _ e) (A7 _) ?_,rfl,q _ hf⟩;exact⟨z,us,0,r,B7 _ rfl⟩
end
noncomputable abbrev Sp:=List V->Hp->VK->XK->Prop
noncomputable abbrev CXT:=List Env->Hp->Shared->XK->Value->Shared->Prop
structure QJ(P:Program)(w:World)(K:Fg)(mg:Str->Option Value)(base:Heap)(A:Around)(outer:List Env)(s:Shared)(H:Hp):Prop where
 frames:A.frames=some outer
 mod:Mod K mg base
 bs:∀b o,base.get? b=some o->s.heap.get? b=some o/\H b=none
 bsz:base.objs.size<=s.heap.objs.size
 funs:s.heap.FunFrames base outer
 frf:∀b∈frs outer,H b=none
 hok:HOk P w H s.heap
 bare:AllBare s.gens
noncomputable def CE(outer:List Env)(P:Program)(w:World)(H:Hp)(s:Shared)(Q:VK)(u:Value)(s':Shared):Prop:=
 ∃v H',s'.os=s.os/\AllBare s'.gens/\Un (frs outer) [] H H' s.heap s'.heap/\HOk P w H' s'.heap/\RelV v u/\Q v H'
noncomputable def CR(CX:CXT)(outer:List Env)(P:Program)(w:World)(H:Hp)(s:Shared)(Q:VK)(E:XK)(r:Result)(s':Shared):Prop:=
 match r with
 |.ok (.ret u)=>CE outer P w H s Q u s'
 |.ok _=>False
 |.error e=>CX outer H s E e s'
structure jF(P:Program)(w:World)(K:Fg)(mg:Str->Option Value)(base:Heap)(CX:CXT)(k:Nat)(f:Addr)(fd:FuncData)(ps:List Str)(sp:Sp)(q:Bool:=true):Prop where
 len:∀vs H Q E,sp vs H Q E->vs.length=ps.length
 run:∀(A:Around)(outer:List Env)(s:Shared)(H:Hp)(args:Args)(us:List Value)(vs:List V)(Q:VK)(E:XK),cB k A q->QJ P w K mg base A outer s H->BindsTo s fd args (ps.zip us)->bK vs us->sp vs H Q E->
  codeAny (model P w) A (.call (.ref f) args) (CR CX outer P w H s Q E) s
theorem jF.mono{P:Program}{w:World}{mg:Str->Option Value}{base:Heap}{CX:CXT}{j k:Nat}{f:Addr}{fd:FuncData}{ps:List Str}{sp:Sp}{q:Bool}(F:jF P w K mg base CX j f fd ps sp q)(h:j<=k):
 jF P w K mg base CX k f fd ps sp q:=⟨F.len,fun A outer s H args us vs Q E hr=>F.run A outer s H args us vs Q E (hr.mono h)⟩
theorem QJ.make{P:Program}{w:World}{mg:Str->Option Value}{base:Heap}{outer:List Env}(e:QJ P w K mg base A outer s H)(C:Addr)(us:List Value)(kw:List (Str×Value)):
 QJ P w K mg base (A.under (.builtin "type.__call__" ⟨.ref C::us,kw⟩)) outer s H:=⟨by first|exact e.frames|(simpa[Around.under,Code.envs,Code.isFrame,pushEnvs]using e.frames),e.mod,e.bs,e.bsz,e.funs,e.frf,e.hok,e.bare⟩
section
variable{X:Cx}{pins:List (Addr×Obj)}{σ:St}{H:Hp}{s s':Shared}
theorem Inv.env0(I:Inv X pins σ H s):QJ X.prog X.w X.K X.mg X.base X.A X.stack s H:=
 ⟨I.ok.frames,I.ok.mod,I.bs,C8 I.ok.bsz I.sz,I.stack,I.stkFree,I.hok,I.bare⟩
theorem Inv.after{Q:VK}{u:Value}(I:Inv X pins σ H s)(h:CE X.stack X.prog X.w H s Q u s'):EP X pins σ Q u s':=by
 obtain⟨v,H',os,bare,un,hok,r,q⟩:=h;obtain⟨hh,g,d,t,os'⟩:=s';obtain rfl:os'=s.os:=os;exact⟨v,H',I.call (h':=hh) (g':=g) (d':=d) (t':=t) (ch:=[]) un hok bare (fun b z=>absurd z (by simp)),r,q⟩
end
noncomputable def aBc(sp:Sp)(dvs:List V)(E:XK)(t:TA):TE:=fun σ H Q=>t σ H fun vs H1=>sp (vs++dvs) H1 Q E
noncomputable def aKi(C:Addr)(sp:Sp)(dvs:List V)(E:XK)(t:TA):TE:=fun σ H Q=>t σ H fun vs H1=>∀x dx,H1 x=none->H1 dx=none->dx≠x->
 sp (.ref x::(vs++dvs)) (upd (upd H1 dx (.own x)) x (.ins C dx [])) (fun v H2=>v=.non/\Q (.ref x) H2) E
noncomputable def Binds(K:Fg)(fd:FuncData)(ps:List Str)(ds:List Value):Prop:=
 ∀(s:Shared)(us:List Value),K.In s.heap->(us++ds).length=ps.length->BindsTo s fd ⟨us,[]⟩ (ps.zip (us++ds))
theorem Binds.all{fd:FuncData}{ps:List Str}(h:∀us:List Value,us.length=ps.length->bindArgs fd ⟨us,[]⟩=pure (ps.zip us)):Binds K fd ps []:=fun s us _ hl=>by
 rw[C5]at hl ⊢;exact .of_eq (h us hl)
noncomputable def RH(CX:CXT)(X:Cx)(E:XK):Prop:=∀(pins:List (Addr×Obj))(σ:St)(H:Hp)(s:Shared)(e:Value)(s':Shared),Inv X pins σ H s->CX X.stack H s E e s'->X.xe e s'
section
variable{X:Cx}{CX:CXT}{k:Nat}{f C:Addr}{fd:FuncData}{ps:List Str}{sp:Sp}{dvs:List V}{ds:List Value}{E:XK}{x m:Str}{p pos apos:Pos}{e o:Expr}{es:List Expr}{ta:TE}{t:TA}
theorem aGw{pins:List (Addr×Obj)}{σ:St}{H:Hp}{s:Shared}{Q:VK}{us:List Value}{vs:List V}{q:Bool}(F:jF X.prog X.w X.K X.mg X.base CX k f fd ps sp q)(hr:cB k X.A q)(hb:Binds X.K fd ps ds)(hd:bK dvs ds)(hx:RH CX X E)
 (I:Inv X pins σ H s) (r:bK vs us) (h:sp (vs++dvs) H Q E):wpAny (model X.prog X.w) X.A (call (.ref f) us) (EP X pins σ Q) X.xe s:=by
 have r2:bK (vs++dvs) (us++ds):=r.append hd;have hl:(us++ds).length=ps.length:=by rw[<- r2.length];exact F.len _ _ _ _ h
 refine Z5 (U2 (F.run X.A X.stack s H ⟨us,[]⟩ (us++ds) (vs++dvs) Q E hr I.env0 (hb s us I.kIn hl) r2 h) fun r s' hq=>?_);cases r with
 |error e=>exact hx pins σ H s e s' I hq
 |ok fl=>
  cases fl with
  |ret u=>exact I.after hq
  |next=>exact False.elim hq
  |brk=>exact False.elim hq
  |cont=>exact False.elim hq
theorem RZ{q:Bool}(F:jF X.prog X.w X.K X.mg X.base CX k f fd ps sp q)(hr:cB k X.A q)(hg:Gl X x)(hm:X.mg x=some (.ref f))(hk:PySem.W.keepIn X.K (.ref f)=true)(hb:Binds X.K fd ps ds)(hd:bK dvs ds)(hx:RH CX X E)
 (ha:PA X (e::es) t) (hdb:(x==("__debug__":Str))=false:=by decide) (he:starEach (e::es) X.env=(false,eval e X.env)::starEach es X.env:=by rfl) (hpl:(backTo pos (starEach es X.env)).any (·.1)=false:=by rfl):
 PE X (.Call (.Name x p) (e::es) [] pos) (aBc sp dvs E t):=by
 sleep 10;refine J2 (mM I hg hm ?_ hdb);refine U3 (h₀:=X.base) I.ok.mod.kin hk (thn (ha pos pins s σ H _ I h) fun us s1 ⟨vs,H1,I1,r,q⟩=>⟨I1.kIn,?_⟩) he hpl;exact aGw F hr hb hd hx I1 r q
structure Mk(K:Fg)(C f:Addr):Prop where
 makes:PySem.W.makesIn K C=true
 init:PySem.W.findIn K (.ref C) "__init__"=some (some (.ref f))
 fn:PySem.W.isFn K (.ref f)=true
 kp:PySem.W.keepIn K (.ref C)=true
theorem NS{pins:List (Addr×Obj)}{σ:St}{H:Hp}{s:Shared}{Q:VK}{us:List Value}{vs:List V}(M:Mk X.K C f)(F:jF X.prog X.w X.K X.mg X.base CX k f fd ps sp)(hr:cB (k+1) X.A)(hb:Binds X.K fd ps ds)(hd:bK dvs ds)
 (hx:∀H s e s',Inv X pins σ H s->CX X.stack H s E e s'->X.xe e s') (I:Inv X pins σ H s) (r:bK vs us)
 (h:∀x dx,H x=none->H dx=none->dx≠x->sp (.ref x::(vs++dvs)) (upd (upd H dx (.own x)) x (.ins C dx [])) (fun v H2=>v=.non/\Q (.ref x) H2) E):
 wpAny (model X.prog X.w) X.A (call (.ref C) us) (EP X pins σ Q) X.xe s:=by
 have hq:=h (s.heap.objs.size+1) s.heap.objs.size (I.hok.fresh (Nat.le_succ _)) (I.hok.fresh (A7 _)) (B6 (F5 _));have I2:=Inv.made (C:=C) I;have r2:bK (V.ref (s.heap.objs.size+1)::(vs++dvs)) (Value.ref (s.heap.objs.size+1)::(us++ds)):=.cons rfl (r.append hd)
 have hl:(Value.ref (s.heap.objs.size+1)::us++ds).length=ps.length:=by
  have e:=r2.length;rw[F.len _ _ _ _ hq]at e;exact e.symm
 refine Z5 (aCt (f:=f) I.kIn M.makes M.init (beq_iff_eq.mp M.fn) (U2 (F.run _ X.stack _ _ ⟨Value.ref (s.heap.objs.size+1)::us,[]⟩ (Value.ref (s.heap.objs.size+1)::(us++ds)) _ _ E (hr.make C us [])
  (I2.env0.make C us []) (hb _ (Value.ref (s.heap.objs.size+1)::us) I2.kIn hl) r2 hq) fun r s' hq'=>?_))
 cases r with
 |error e=>exact hx _ _ e s' I2 hq'
 |ok fl=>
  cases fl with
  |ret u=>
   obtain⟨v,H',I3,rv,ev,q3⟩:=I2.after hq';subst ev;exact⟨rv,⟨V.ref (s.heap.objs.size+1),H',I3,rfl,q3⟩⟩
  |next=>exact False.elim hq'
  |brk=>exact False.elim hq'
  |cont=>exact False.elim hq'
end
structure aT(N P:List Str)(sc:Scope):Prop where
 kind:sc.kind=.function
 co:sc.isCoroutine=false
 gen:sc.isGenerator=false
 nd:N.Nodup
 pre:N.take P.length=P
 par:∀x∈P,sc.names.lookup x=some .local\/sc.names.lookup x=some .cell
 nofree:∀y∈sc.names,y.2≠.free
theorem HE{kindOf:Str->Option NameKind}{x:Str}:∀{binds:List (Str×Value)}{m:Str->Option Value},(∀v,(x,v)∉binds)->bindL kindOf binds m x=m x
 |[],_=>fun _=>rfl
 |(n,v)::r,m=>fun h=>by
  unfold bindL;rw[HE fun w hw=>h w (B1 _ hw)];split
  .have:x≠n:=by rintro rfl;exact h v B3
   simp[this]
  .rfl
theorem GC{kindOf:Str->Option NameKind}{x:Str}:∀{binds:List (Str×Value)}{m:Str->Option Value},(∀v,(x,v)∉binds)->bindC kindOf binds m x=m x
 |[],_=>fun _=>rfl
 |(n,v)::r,m=>fun h=>by
  unfold bindC;rw[GC fun w hw=>h w (B1 _ hw)];split
  .rfl
  .have:x≠n:=by rintro rfl;exact h v B3
   simp[this]
theorem HN{kindOf:Str->Option NameKind}{x:Str}{v:Value}:∀{P:List Str}{vs:List Value}{i:Nat}{m:Str->Option Value},P.Nodup->P[i]?=some x->vs[i]?=some v->kindOf x=some .local->
 bindL kindOf (P.zip vs) m x=some v
 |[],_,_,_=>fun _ h _ _=>by simp at h
 |_::_,[],_,_=>fun _ _ h _=>by simp at h
 |p::P,w::vs,0,m=>fun nd h1 h2 hk=>by
  simp at h1 h2;subst h1;subst h2;show bindL kindOf ((p,w)::P.zip vs) m p=_;unfold bindL;rw[HE fun v hv=>(List.nodup_cons.mp nd).1 (List.of_mem_zip hv).1,A3 hk];simp
 |p::P,w::vs,i+1,m=>fun nd h1 h2 hk=>by
  show bindL kindOf ((p,w)::P.zip vs) m x=_;unfold bindL;exact HN (i:=i) (List.nodup_cons.mp nd).2 (by simpa using h1) (by simpa using h2) hk
theorem GT{kindOf:Str->Option NameKind}{x:Str}{v:Value}:∀{P:List Str}{vs:List Value}{i:Nat}{m:Str->Option Value},P.Nodup->P[i]?=some x->vs[i]?=some v->kindOf x≠some .local->
 bindC kindOf (P.zip vs) m x=some v
 |[],_,_,_=>fun _ h _ _=>by simp at h
 |_::_,[],_,_=>fun _ _ h _=>by simp at h
 |p::P,w::vs,0,m=>fun nd h1 h2 hk=>by
  simp at h1 h2;subst h1;subst h2;show bindC kindOf ((p,w)::P.zip vs) m p=_;unfold bindC;rw[GC fun v hv=>(List.nodup_cons.mp nd).1 (List.of_mem_zip hv).1,A5 hk];simp
 |p::P,w::vs,i+1,m=>fun nd h1 h2 hk=>by
  show bindC kindOf ((p,w)::P.zip vs) m x=_;unfold bindC;exact GT (i:=i) (List.nodup_cons.mp nd).2 (by simpa using h1) (by simpa using h2) hk
noncomputable def start(N:List Str)(vs:List V):St:=vs.map some++List.replicate (N.length-vs.length) none
noncomputable def nR(CX:CXT)(P:Program)(w:World)(K:Fg)(mg:Str->Option Value)(base:Heap)(N:List Str)(qual:Str)(scope:Scope)(f:Addr)(cd:Value)(A:Around)(outer:List Env)(s:Shared)(H:Hp)(E:XK)(q:Bool:=true):Cx where
 prog:=P
 w:=w
 K:=K
 mg:=mg
 base:=base
 A:=A.deeper (envOfC qual scope s.heap.objs.size f cd)
 N:=N
 s₀:=s
 H₀:=H
 env:=envOfC qual scope s.heap.objs.size f cd
 outer:=outer
 stack:=envOfC qual scope s.heap.objs.size f cd::outer
 ex:=[]
 calm:=q
 fn:=fun _=>true
 pn:=[]
 xe:=fun e s'=>wpAny (model P w) (A.deeper (envOfC qual scope s.heap.objs.size f cd)) (leaving (envOfC qual scope s.heap.objs.size f cd) e) (fun _ s''=>CX outer H s E e s'') (fun e' s''=>CX outer H s E e' s'') s'
theorem LX{sc:Scope}{n:Nat}{x:Str}(h:sc.names.lookup x=some .cell):∃c,(cellsFrom n sc.names []).lookup x=some c:=by
 have q:=PySem.W.cellsFrom_some sc.names n [] (.inl h);exact Option.isSome_iff_exists.mp q
theorem XI{CX:CXT}{P:Program}{w:World}{K:Fg}{mg:Str->Option Value}{base:Heap}{N ps:List Str}{qual:Str}{scope:Scope}{f:Addr}{cd:Value}{A:Around}{outer:List Env}{s s1:Shared}{H:Hp}{E:XK}{us:List Value}{vs:List V}{q:Bool}
 (S:aT N ps scope) (hd:q=true->A.handled=none) (e0:QJ P w K mg base A outer s H) (hl:vs.length=ps.length) (r:bK vs us)
 (x:InCallC s s.heap.objs.size (bindL (envOfC qual scope s.heap.objs.size f cd).kindOf (ps.zip us) fun _=>none) (cellsFrom (s.heap.objs.size+1) scope.names []) (bindC (envOfC qual scope s.heap.objs.size f cd).kindOf (ps.zip us) fun _=>none) s1):
 Inv (nR CX P w K mg base N qual scope f cd A outer s H E q) [] (start N vs) H s1:=by
 have hpl:ps.length<=N.length:=by have:=O2 List.length S.pre;rw[J6]at this;omega
 obtain⟨h1,tk,rfl,hk⟩:=x.done;have noA:∀b:Addr,b∉(nR CX P w K mg base N qual scope f cd A outer s H E q).ex:=fun b z=>absurd (show b∈([]:List Addr)from z) (by simp)
 refine⟨⟨e0.mod,S.kind,rfl,rfl,A7 _,fun y z c h1 h2=>?_,fun y hy=>?_,fun y c _ h=>?_,hd,Around.frames_deeper e0.frames,.inr ⟨rfl,rfl⟩,fun b z=>absurd z (noA b),e0.bs,e0.bsz,fun b _ _=>noA b,fun b z=>absurd z (noA b),e0.funs,e0.frf⟩,
  rfl,e0.bare,Un.kept hk,⟨_,x.toInCall.ns,fun i y v h1 h2 h3=>?_⟩,fun y c h=>⟨_,x.cell y c h⟩,e0.hok.fresh (A7 _),fun y c h=>?_,fun p hp=>absurd (show p∈([]:List (Addr×Obj))from hp) (by simp),e0.hok.kept hk,?_⟩
 .exact name_of_addr x.apart (E6 h1) (E6 h2)
 .have hy:scope.names.lookup y=some .cell\/scope.names.lookup y=some .free:=hy;rcases hy with hy|hy
  .exact LX hy
  .exact absurd rfl (S.nofree _ (E6 hy))
 .exact S5 (x.above y c (E6 h))
 .have hi:i<vs.length:=by
   unfold start at h2;by_cases hi:i<vs.length
   .exact hi
   .rw[C6 (by simpa using hi)]at h2;rw[List.getElem?_replicate]at h2;split at h2<;>cases h2
  have ha:vs[i]?=some v:=by
   unfold start at h2;rw[C1 (by simpa using hi),D5]at h2;cases e:vs[i]? with
   |none=>rw[e]at h2;cases h2
   |some a=>rw[e]at h2;cases h2;rfl
  obtain⟨u,hu,rv⟩:=r.get ha
  have hp:ps[i]?=some y:=by
   rw[<- S.pre,List.getElem?_take_of_lt (by omega)];exact h1
  have ndP:ps.Nodup:=by rw[<- S.pre];exact S.nd.sublist (List.take_sublist _ _)
  refine⟨u,rv,?_⟩;rcases S.par y (List.mem_of_getElem? hp)with k|k
  .exact .inl ⟨k,HN ndP hp hu k⟩
  .obtain⟨c,e⟩:=LX (n:=s.heap.objs.size+1) k;refine .inr ⟨.inl k,c,e,?_⟩;have q:=x.cell y c e;rw[GT ndP hp hu (by show scope.names.lookup y≠_;rw[k];decide)]at q;exact q
 .exact e0.hok.fresh (S5 (x.above y c (E6 h)))
 .unfold start;show _=N.length;rw[A9,A8,List.length_replicate];omega
theorem aEX{CX:CXT}{P:Program}{w:World}{K:Fg}{mg:Str->Option Value}{base:Heap}{k:Nat}{f:Addr}{name qual:Str}{params:Arguments}{body:List Stmt}{scope:Scope}{dV kV doc pm cdv ct oc:Value}{an od:Option Addr}
 {osl:Array (Option Value)} {N ps:List Str} {sp:Sp} {q:Bool} (lk:K.lookup f=some ⟨oc,od,.func (PySem.W.fnOf name qual params body scope dV kV doc pm an cdv ct),osl⟩) (hcd:PySem.W.codeIn K cdv qual=true) (S:aT N ps scope)
 (len:∀vs H Q E,sp vs H Q E->vs.length=ps.length)
 (hbody:∀(A:Around)(outer:List Env)(s:Shared)(H:Hp)(vs:List V)(Q:VK)(E:XK),cB k (A.deeper (envOfC qual scope s.heap.objs.size f cdv)) q->sp vs H Q E->
  ∃t,PSs (nR CX P w K mg base N qual scope f cdv A outer s H E q) body t/\t { nx:=fun _ H'=>Q .non H',rt:=Q } (start N vs) H):
 jF P w K mg base CX (k+1) f (PySem.W.fnOf name qual params body scope dV kV doc pm an cdv ct) ps sp q:=by
 refine⟨len,fun A outer s H args us vs Q E hr e0 hb r hsp=>?_⟩;have hl:=len _ _ _ _ hsp;have KX:K.In s.heap:=e0.mod.kin.keeps fun b o e=>(e0.bs b o e).1;have lim:s.heap.NoLimit:=e0.mod.nolimit.keeps fun b o e=>(e0.bs b o e).1
 have hkind:∀y∈ps.zip us,scope.names.lookup y.1=some .local\/(scope.names.lookup y.1=some .cell/\((cellsFrom (s.heap.objs.size+1) scope.names []).lookup y.1).isSome=true):=fun⟨n,v⟩ hy=>by
  rcases S.par n (List.of_mem_zip hy).1 with q|q
  .exact .inl q
  .exact .inr ⟨q,PySem.W.cellsFrom_some _ _ _ (.inl q)⟩
 refine codeAny_call_function hr.depth (KX _ _ lk) rfl S.co S.gen rfl (PySem.W.codeRec_of KX hcd) (hb _ _ _ _ ?_);refine wpAny_newFunctionEnv_cells S.kind hkind fun env he s1 x=>?_;subst he;refine⟨lim.keeps x.toInCall.keep,codeAny_func ?_⟩;obtain⟨t,ht,hq⟩:=hbody A outer s H vs Q E (hr.deeper _) hsp;have I:Inv (nR CX P w K mg base N qual scope f cdv A outer s H E q) [] (start N vs) H s1:=XI S hr.hd e0 hl r x;refine D8 (ht [] s1 (start N vs) H _ I hq) (fun fl s' hs=>?_) fun e s' hs=>hs
 have fin:∀{σ':St}{H':Hp}{v:V}{u:Value},Inv (nR CX P w K mg base N qual scope f cdv A outer s H E q) [] σ' H' s'->RelV v u->Q v H'->CE outer P w H s Q u s':=
  fun{σ' H' v u} J rv q=>⟨v,H',J.os,J.bare,J.base,J.hok,rv,q⟩
 cases fl with
 |ret u=>
  obtain⟨v,σ',H',J,rv,q⟩:=hs;exact fin J rv q
 |next=>
  obtain⟨σ',H',J,q⟩:=hs;exact fin (v:=V.non) (u:=Value.none) J rfl q
 |brk=>
  obtain⟨_,_,_,q⟩:=hs;exact False.elim q
 |cont=>
  obtain⟨_,_,_,q⟩:=hs;exact False.elim q
section
variable{X:Cx}{x:Str}{p pos:Pos}{e:Expr}{es:List Expr}{t:TA}{id T:String}{r:List V->Hp->VK->Prop}
noncomputable def tCB(r:List V->Hp->VK->Prop)(t:TA):TE:=fun σ H Q=>t σ H fun vs H1=>r vs H1 Q
theorem sP(hc:gO X (.builtin id) r)(hg:Gl X x)(hm:X.mg x=none)(hv:bootBuiltins x=some (.builtin id))(ha:PA X (e::es) t)(hn:x≠"__name__":=by decide)(hdb:(x==("__debug__":Str))=false:=by decide)
 (he:starEach (e::es) X.env=(false,eval e X.env)::starEach es X.env:=by rfl) (hpl:(backTo pos (starEach es X.env)).any (·.1)=false:=by rfl):PE X (.Call (.Name x p) (e::es) [] pos) (tCB r t):=by
 sleep 10;refine J2 (wA I hg hm hv ?_ hn hdb);exact PyProof.Rows.callWith_builtin1 (thn (ha pos pins s σ H _ I h) fun us s1 ⟨vs,H1,I1,r1,q1⟩=>hc pins s1 σ H1 vs us Q I1 r1 q1) he hpl
theorem UZ(hc:gO X (.type T) r)(hg:Gl X x)(hm:X.mg x=none)(hv:bootBuiltins x=some (.type T))(ha:PA X (e::es) t)(hn:x≠"__name__":=by decide)(hdb:(x==("__debug__":Str))=false:=by decide)
 (he:starEach (e::es) X.env=(false,eval e X.env)::starEach es X.env:=by rfl) (hpl:(backTo pos (starEach es X.env)).any (·.1)=false:=by rfl):PE X (.Call (.Name x p) (e::es) [] pos) (tCB r t):=by
 sleep 10;refine J2 (wA I hg hm hv ?_ hn hdb);exact Y6 (thn (ha pos pins s σ H _ I h) fun us s1 ⟨vs,H1,I1,r1,q1⟩=>hc pins s1 σ H1 vs us Q I1 r1 q1) he hpl
end
end L2
namespace HT
open PySem PyProof.Rows
noncomputable def lexLt:List Int->List Int->Bool
 |[],[]=>false
 |[],_::_=>true
 |_::_,[]=>false
 |x::xs,y::ys=>if x=y then lexLt xs ys else decide (x<y)
theorem lexLt_cons(x y:Int)(xs ys:List Int):lexLt (x::xs) (y::ys)=if x=y then lexLt xs ys else decide (x<y):=rfl
theorem FS:lexLt [] []=false:=rfl
theorem DI(y:Int)(ys:List Int):lexLt [] (y::ys)=true:=rfl
theorem DM(x:Int)(xs:List Int):lexLt (x::xs) []=false:=rfl
theorem XZ(A:Around)(s:Shared)(a:Int)(t:Tok)(c:Int)(u:Tok):∃e,SeqAt.EqAt A s (.int a t) (.int c u) e/\(e=true↔a=c):=
 ⟨(a==c),SeqAt.EqAt.int_int a t c u,by simp⟩
theorem ZM(A:Around)(s:Shared)(a:Int)(t:Tok)(c:Int)(u:Tok)(prog:Program)(w:World)(E:Value->Shared->Prop)(Q:Value->Shared->Prop)(h:Q (.bool (decide (a<c))) s):
 wpAny (model prog w) A (richCompare .Lt (.int a t) (.int c u)) Q E s:=
 (PyProof.Rows.lt_int h:wpAny (model prog w) A (compareOp .Lt (.int a t) (.int c u)) Q E s)
section
open PySem.SeqAt
open PySem.AutoSeq1 (wpAny_loadPart')
open PySem.MeetsSeq PySem.MeetsSeq2 PySem.MeetsSeq3
theorem EV(l b:Addr)(items items2:Array Value)(n n2:Nat)(dd dd2:Option Addr)(sl sl2:Array (Option Value))(ns ms:List Int)(hi:IntsAre items.toList ns)(hj:IntsAre items2.toList ms):
 Meets (Builtin.«tuple.__lt__» ⟨[.ref l,.ref b],[]⟩)
  (fun _ R s=>s.heap.get? l=some { cls:=.type "tuple",dict:=dd,data:=.seq items n,slots:=sl }/\s.heap.get? b=some { cls:=.type "tuple",dict:=dd2,data:=.seq items2 n2,slots:=sl2 } /\
   R (.ok (.ret (.bool (lexLt ns ms)))) s):=
 .of_wp fun prog w A R s h=>by
  obtain⟨hp,g,d,tk,os⟩:=s;obtain⟨hl,hb,h⟩:=h;have f2:=AutoSeq1.sub_tuple_tuple;have z1:items.size=ns.length:=by rw[<- hi.length];simp
  have z2:items2.size=ms.length:=by rw[<- hj.length];simp
  wp_walk using U7 hl,U7 hb,wpAny_forIn_list _ (fun rest b s'=>b.1=none/\s'=⟨hp,g,d,tk,os⟩/\∃(vs ws:List Value)(ns' ms':List Int),rest=vs.zip ws /\
   IntsAre vs ns'/\IntsAre ws ms'/\ns'.length+items2.size=ms'.length+items.size/\R (.ok (.ret (.bool (lexLt ns' ms')))) ⟨hp,g,d,tk,os⟩) _
  case turn=>
   rintro⟨y,x⟩ rest b s' ⟨hb',rfl,vs,ws,ns',ms',hz,hvi,hwi,hlen,hR⟩;cases hvi with
   |nil=>rw[List.zip_nil_left]at hz;cases hz
   |cons a t hvi'=>
    cases hwi with
    |nil=>rw[List.zip_nil_right]at hz;cases hz
    |cons c u hwi'=>
     rw[List.zip_cons_cons]at hz;injection hz with hyx hrest
     injection hyx with hy hx
     subst hy hx;rw[lexLt_cons]at hR;simp only[List.length_cons]at hlen;obtain⟨e,he,hiff⟩:=XZ A.in1 ⟨hp,g,d,tk,os⟩ a t c u;refine A0 (he prog w _ _ ?_);cases e with
     |true=>
      rw[A3 (hiff.mp rfl)]at hR
      wp_walk
      exact⟨rfl,rfl,_,_,_,_,hrest,hvi',hwi',by omega,hR⟩
     |false=>
      rw[A5 (fun q=>absurd (hiff.mpr q) A4)]at hR;have hri:=ZM A.in1 ⟨hp,g,d,tk,os⟩ a t c u prog w
      wp_walk using hri
      exact⟨_,rfl,by simpa using hR⟩
  case fin=>
   rintro⟨b1,b2⟩ s' ⟨hb',rfl,vs,ws,ns',ms',hz,hvi,hwi,hlen,hR⟩;simp only at hb';subst hb'
   have hv:lexLt ns' ms'=decide (items.size<items2.size):=by
    cases hvi with
    |nil=>
     cases hwi with
     |nil=>
      simp only[List.length_nil]at hlen;rw[FS];exact(B9 (by omega)).symm
     |cons c u hw=>
      simp only[List.length_nil,List.length_cons]at hlen;rw[DI];exact(C7 (by omega)).symm
    |cons a t hv=>
     cases hwi with
     |nil=>
      simp only[List.length_nil,List.length_cons]at hlen;rw[DM];exact(B9 (by omega)).symm
     |cons c u hw=>
      rw[List.zip_cons_cons]at hz;cases hz
   rw[hv]at hR
   wp_walk
   exact⟨_,rfl,by simpa[Builtin.Tuple.tupleCompareSizes]using hR⟩
  case h=>
   exact⟨rfl,rfl,items.toList,items2.toList,ns,ms,rfl,hi,hj,by omega,h⟩
end
section
variable{prog:Program}{w:World}{A:Around}{E:Value->Shared->Prop}{s:Shared}
theorem lt_tupInts{l b:Addr}{items items2:Array Value}{ns ms:List Int}{Q:Value->Shared->Prop}(hl:IsTup s.heap l items)(hb:IsTup s.heap b items2)(hi:IntsAre items.toList ns)(hj:IntsAre items2.toList ms)
 (hu:A.units<cLine) (h:Q (.bool (lexLt ns ms)) s):wpAny (model prog w) A (compareOp .Lt (.ref l) (.ref b)) Q E s:=by
 obtain⟨⟨cls,dd,data,sl⟩,ho,hc,n,hd⟩:=id hl;obtain⟨⟨cls2,dd2,data2,sl2⟩,ho2,hc2,n2,hd2⟩:=id hb;simp only at hc hd hc2 hd2;subst hc hd hc2 hd2
 exact richCompare_meets_room (op:=.Lt) ⟨_,ho,rfl⟩ ⟨_,ho2,rfl⟩ PySem.F.slot_tuple_lt PySem.F.entry_tuple_lt (PySem.F.args_tuple_lt_2 _ _) (EV l b items items2 n n2 dd dd2 sl sl2 ns ms hi hj)
  ⟨ho,ho2,show Value.bool (lexLt ns ms)≠Value.notImplemented/\Q (.bool (lexLt ns ms)) s from⟨(fun x=>nomatch x),h⟩⟩ hu
theorem cat_tup{t b:Addr}{vs ws:List Value}{Q:Value->Shared->Prop}(ht:IsTup s.heap t vs.toArray)(hb:IsTup s.heap b ws.toArray)(hv:vs≠[])
 (h1:ws=[]->Q (.ref t) s) (h2:ws≠[]->Q (.ref s.heap.objs.size) { s with heap:=s.heap.push { cls:=.type "tuple",data:=.seq (vs++ws).toArray } })
 (hsz:vs.length+ws.length<=sizeLine):wpAny (model prog w) A (binaryOp .Add (.ref t) (.ref b)) Q E s:=by
 obtain⟨⟨cls,dd,data,sl⟩,ho,hc,n,hd⟩:=id ht;obtain⟨⟨cls2,dd2,data2,sl2⟩,ho2,hc2,n2,hd2⟩:=id hb;simp only at hc hd hc2 hd2;subst hc hd hc2 hd2;have e:vs.toArray++ws.toArray=(vs++ws).toArray:=by simp
 by_cases hw:ws=[]
 .exact concat_meets ⟨_,ho,rfl⟩ ⟨_,ho2,rfl⟩ noFill_tuple_add seq_tuple_add PySem.F.slot_tuple_add PySem.F.entry_tuple_add (PySem.F.args_tuple_add_2 _ _)
   (tuple_addW1 t b vs.toArray ws.toArray n n2 dd dd2 sl sl2 (by simpa using hv) (by simp[hw])) ⟨ho,ho2,h1 hw⟩
 .refine concat_meets ⟨_,ho,rfl⟩ ⟨_,ho2,rfl⟩ noFill_tuple_add seq_tuple_add PySem.F.slot_tuple_add PySem.F.entry_tuple_add (PySem.F.args_tuple_add_2 _ _)
   (tuple_addW2 t b vs.toArray ws.toArray n n2 dd dd2 sl sl2 (by simpa using hv) (by simpa using hw) (by rw[D0,D0];exact hsz)) ⟨ho,ho2,?_⟩
  rw[e];exact h2 hw
noncomputable def sIx(n d:Nat):Option Int->Nat
 |none=>d
 |some v=>if v<0 then(v+(n:Int)).toNat else min v.toNat n
theorem sIx_none(n d:Nat):sIx n d none=d:=rfl
theorem sIx_nat(n d k:Nat):sIx n d (some (k:Int))=min k n:=by
 show(if (k:Int)<0 then((k:Int)+(n:Int)).toNat else min (k:Int).toNat n)=min k n;rw[A5 (by omega),Int.toNat_natCast]
theorem aHc(n d:Nat)(hd:d<=n)(o:Option Int):sIx n d o<=n:=by
 cases o with
 |none=>exact hd
 |some v=>
  show(if v<0 then(v+(n:Int)).toNat else min v.toNat n)<=n;by_cases hv:v<0
  .rw[A3 hv];omega
  .rw[A5 hv];exact Nat.min_le_right _ _
theorem SD(v:Int)(n d:Nat):(if v<0 then max (v+(n:Int)) 0 else min v (n:Int))=((sIx n d (some v):Nat):Int):=by
 show(if v<0 then max (v+(n:Int)) 0 else min v (n:Int))=(((if v<0 then(v+(n:Int)).toNat else min v.toNat n):Nat):Int);by_cases hv:v<0
 .simp only[if_pos hv];omega
 .simp only[if_neg hv];omega
theorem QA(lo hi:Option Int)(n:Nat):Builtin.Slice.sliceAdjust lo hi 1 (n:Int)=(((sIx n 0 lo:Nat):Int),((sIx n n hi:Nat):Int)):=by
 have h1:¬((1:Int)<0):=by omega
 unfold Builtin.Slice.sliceAdjust;simp only[h1,if_false];refine Prod.ext ?_ ?_
 .cases lo with
  |none=>rfl
  |some v=>exact SD v n 0
 .cases hi with
  |none=>rfl
  |some v=>exact SD v n n
theorem RD(i j:Nat):Builtin.Slice.slicePlaces (i:Int) (j:Int) 1=j-i:=by
 unfold Builtin.Slice.slicePlaces;have h1:(1:Int) > 0:=by omega
 simp only[h1,if_true,Int.ediv_one];split<;>omega
theorem CC{v:Value}{o:Option Int}{Q:Option Int->Shared->Prop}(p:IsPart v o)(h:Q o s):wpAny (model prog w) A (Builtin.Slice.slicePartIndex v) Q E s:=by
 cases p with
 |none=>exact slicePart_none h
 |int i t=>exact slicePart_int h
theorem oP{sl:Addr}{vl vu:Value}{lo hi:Option Int}{n:Nat}{Q:Int×Int×Nat->Shared->Prop}(hs:s.heap.IsSliceOf sl vl vu .none)(pl:IsPart vl lo)(pu:IsPart vu hi)
 (h:Q (((sIx n 0 lo:Nat):Int),1,sIx n n hi-sIx n 0 lo) s):wpAny (model prog w) A (Builtin.Slice.sliceApplied (.ref sl) (pure (n:Int))) Q E s:=by
 obtain⟨os,hos,hcs,hds⟩:=id hs;unfold Builtin.Slice.sliceApplied Builtin.Slice.sliceFields;refine A0 (A0 (E7 hos hds (x:=vl) rfl (A0 (E7 hos hds (x:=vu) rfl (A0 (E7 hos hds (x:=.none) rfl (A6 ?_)))))));refine A0 (slicePart_none ?_);show wpAny _ _ (if ((1:Int)==0)=true then _ else _) _ _ s;rw[A5 (by decide)];refine A0 (CC pl (A0 (CC pu (A0 (A6 ?_)))));show wpAny _ _ (match Builtin.Slice.sliceAdjust lo hi 1 (n:Int)with|(lo,hi)=>pure (lo,(1:Int),Builtin.Slice.slicePlaces lo hi 1)) _ _ s;rw[QA lo hi n];show wpAny _ _ (pure (((sIx n 0 lo:Nat):Int),(1:Int),Builtin.Slice.slicePlaces ((sIx n 0 lo:Nat):Int) ((sIx n n hi:Nat):Int) 1)) _ _ s;rw[RD];exact A6 h
theorem aCd(xs:Array Value)(i k:Nat):((List.range k).filterMap fun(m:Nat)=>xs[((i:Int)+(m:Int)*1).toNat]?).toArray=((xs.toList.drop i).take k).toArray:=by
 have e:(fun(m:Nat)=>xs[((i:Int)+(m:Int)*1).toNat]?)=fun m=>xs[i+m]?:=by
  funext m;have:((i:Int)+(m:Int)*1).toNat=i+m:=by omega
  rw[this]
 rw[e];have:=pick_run xs i k;rw[List.filterMap_map]at this;have e2:((fun x=>xs[x]?) ∘ fun x=>i+x)=fun m=>xs[i+m]?:=rfl;rw[e2]at this;rw[this]
theorem getItem_tuple_cut{t sl:Addr}{items:Array Value}{vl vu:Value}{lo hi:Option Int}{Q:Value->Shared->Prop}(ht:IsTup s.heap t items)(hs:s.heap.IsSliceOf sl vl vu .none)(pl:IsPart vl lo)(pu:IsPart vu hi)
 (hw:¬(sIx items.size 0 lo=0/\sIx items.size items.size hi=items.size))
 (h:Q (.ref s.heap.objs.size) { s with heap:=s.heap.push { cls:=.type "tuple",data:=.seq ((items.toList.drop (sIx items.size 0 lo)).take (sIx items.size items.size hi-sIx items.size 0 lo)).toArray } })
 (hsz:items.size<=sizeLine):wpAny (model prog w) A (getItem (.ref t) (.ref sl)) Q E s:=by
 have htake:sizeOk (.seq ((items.toList.drop (sIx items.size 0 lo)).take (sIx items.size items.size hi-sIx items.size 0 lo)).toArray):=by
  show((items.toList.drop (sIx items.size 0 lo)).take (sIx items.size items.size hi-sIx items.size 0 lo)).toArray.size<=sizeLine;rw[D0,J6,J7,Y5];omega
 have hj:sIx items.size items.size hi<=items.size:=aHc _ _ (A7 _) hi;obtain⟨os,hos,hcs,hds⟩:=id hs;have hTs:s.TypeIs (.ref sl) "slice":=⟨os,hos,hcs⟩;unfold getItem
 try with_reducible refine E2 ?_
 first|refine A0 (A6 ?_)|skip
 refine A0 (wpAny_sequenceKey ht.typeIs (by decide) ?_)
 refine A0 (O5 (name:=Str.ofString "__getitem__") ht.typeIs L7
  (J3 L7 ht.typeIs entry_tuple_getitem ?_ (args_tuple_getitem _ _)))
 show wpAny _ _ (Builtin.Tuple.tupleItemsOf (.ref t) >>= _) _ _ s;refine A0 (tupleItemsOf_ ht ?_);refine A0 (wpAny_typeOf hTs ?_);rw[A3 (by decide)];refine A0 (oP hs pl pu ?_)
 have hno:¬((((sIx items.size 0 lo:Nat):Int)==0&&(1:Int)==1&&(sIx items.size items.size hi-sIx items.size 0 lo)==items.size)=true):=by
  intro q;rw[B4,B4]at q;have q1:((sIx items.size 0 lo:Nat):Int)=0:=eq_of_beq q.1.1;have q2:sIx items.size items.size hi-sIx items.size 0 lo=items.size:=eq_of_beq q.2;exact hw ⟨by omega,by omega⟩
 show wpAny _ _ (if (((sIx items.size 0 lo:Nat):Int)==0&&(1:Int)==1&&(sIx items.size items.size hi-sIx items.size 0 lo)==items.size)=true then _ else _) _ _ s;rw[A5 hno,aCd]
 first
  |exact A0 (m:=Builtin.Tuple.tupleExact _) (D7 (A6 ⟨_,rfl,A6 h⟩) htake)
  |exact A0 (m:=Builtin.Tuple.tupleExact _) (D7 (A0 (A6 (A6 ⟨_,rfl,A6 h⟩))) htake)
  |exact A0 (A0 (m:=Builtin.Tuple.tupleExact _) (D7 (A6 (A6 ⟨_,rfl,A6 h⟩)) htake))
  |exact A0 (A0 (m:=Builtin.Tuple.tupleExact _) (D7 (A6 ⟨_,rfl,A6 h⟩) htake))
end
end HT
namespace L2
variable{H:Hp}{σ:St}{s:Shared}{pos:Pos}
open PySem PySem.Spec PyProof.Rows
noncomputable abbrev TO:=St->Hp->(Option Int->Hp->Prop)->Prop
noncomputable def PO(X:Cx)(e:Option Expr)(t:TO):Prop:=
 ∀(pins:List (Addr×Obj))(s:Shared)(σ:St)(H:Hp)(Q:Option Int->Hp->Prop),Inv X pins σ H s->t σ H Q->
  wpAny (model X.prog X.w) X.A (evalPart e X.env) (fun u s'=>∃o H',Inv X pins σ H' s'/\IsPart u o/\Q o H') X.xe s
noncomputable def RY:TO:=fun _ H Q=>Q none H
noncomputable def aFq(t:TE):TO:=fun σ H Q=>t σ H fun x H1=>∃i,x=.int i/\Q (some i) H1
section
variable{X:Cx}{e:Expr}{te:TE}{lo hi:Option Expr}{tl th:TO}{pos p2:Pos}
theorem aEA:PO X none RY:=by
 sleep 10;rw[evalPart_none];exact A6 ⟨none,H,I,.none,h⟩
theorem aDS(h:PE X e te):PO X (some e) (aFq te):=by
 intro pins s σ H Q I hw;rw[evalPart_some];refine thn (h pins s σ H _ I hw) fun u s1 ⟨x,H1,I1,r1,q1⟩=>?_;obtain⟨i,rfl,q⟩:=q1;obtain⟨t,rfl⟩:=r1;exact⟨some i,H1,I1,.int i t,q⟩
noncomputable def SlR(X:Cx)(r:V->Option Int->Option Int->Hp->VK->Prop):Prop:=
 ∀(pins:List (Addr×Obj))(s:Shared)(σ:St)(H:Hp)(x:V)(v vl vu:Value)(lo hi:Option Int)(sl:Addr)(Q:VK),Inv X pins σ H s->RelV x v->s.heap.IsSliceOf sl vl vu .none->IsPart vl lo->IsPart vu hi->r x lo hi H Q->
  ∃T id,typeLookup (.type T) "__getitem__"=pure (some (.builtin id))/\s.TypeIs v T/\wpAny (model X.prog X.w) X.A (getItem v (.ref sl)) (EP X pins σ Q) X.xe s
theorem SlR.or{r r':V->Option Int->Option Int->Hp->VK->Prop}(h:SlR X r)(h':SlR X r'):SlR X (fun x lo hi H Q=>r x lo hi H Q\/r' x lo hi H Q):=by
 intro pins s σ H x v vl vu lo hi sl Q I rx hs pl pu q;rcases q with q|q
 .exact h pins s σ H x v vl vu lo hi sl Q I rx hs pl pu q
 .exact h' pins s σ H x v vl vu lo hi sl Q I rx hs pl pu q
noncomputable def tSl(r:V->Option Int->Option Int->Hp->VK->Prop)(te:TE)(tl th:TO):TE:=fun σ H Q=>te σ H fun x H1=>tl σ H1 fun l H2=>th σ H2 fun u H3=>r x l u H3 Q
theorem aAc{r:V->Option Int->Option Int->Hp->VK->Prop}(hr:SlR X r)(he:PE X e te)(hl:PO X lo tl)(hu:PO X hi th):PE X (.Subscript e (.Slice lo hi none p2) pos) (tSl r te tl th):=by
 sleep 10;refine Subscript_ (thn (he pins s σ H _ I h) fun v s1 ⟨x,H1,I1,r1,q1⟩=>?_);refine wpAny_Slice (thn (hl pins s1 σ H1 _ I1 q1) fun vl s2 ⟨l,H2,I2,pl,q2⟩=>thn (hu pins s2 σ H2 _ I2 q2) fun vu s3 ⟨u,H3,I3,pu,q3⟩=>?_);rw[evalPart_none];refine A6 ?_;have I4:Inv X pins σ H3 { s3 with heap:=s3.heap.push { cls:=.type "slice",data:=.fields #[vl,vu,.none] } }:=I3.kept (t':=s3.toks) fun b ob q=>A2 _ q;obtain⟨T,id,hT,ht,hg⟩:=hr pins { s3 with heap:=s3.heap.push { cls:=.type "slice",data:=.fields #[vl,vu,.none] } } σ H3 x v vl vu l u s3.heap.objs.size Q I4 r1 (Heap.IsSliceOf.new ..) pl pu q3;show wpAny (model X.prog X.w) X.A (subscriptTail e (.Slice lo hi none p2) v (.ref s3.heap.objs.size)) (EP X pins σ Q) X.xe { s3 with heap:=s3.heap.push { cls:=.type "slice",data:=.fields #[vl,vu,.none] } };exact tail_any (ops:=[.ref s3.heap.objs.size,v]) ht hT hg (by with_unfolding_all rfl)
noncomputable def yG(xs:List V)(lo hi:Option Int):List V:=(xs.drop (HT.sIx xs.length 0 lo)).take (HT.sIx xs.length xs.length hi-HT.sIx xs.length 0 lo)
theorem zQ(xs:List V)(lo hi:Option Int):(yG xs lo hi).length<=xs.length:=by
 unfold yG;rw[J6,J7];omega
noncomputable def aIL(K:Fg):V->Option Int->Option Int->Hp->VK->Prop:=fun x lo hi H Q=>∃a xs,x=.ref a/\SqT K H a xs /\
 ¬(HT.sIx xs.length 0 lo=0/\HT.sIx xs.length xs.length hi=xs.length)/\∀p,H p=none->Q (.ref p) (upd H p (.tup (yG xs lo hi)))
theorem sl_tup:SlR X (aIL X.K):=by
 intro pins s σ H x v vl vu lo hi sl Q I rx hs pl pu h;obtain⟨a,xs,rfl,hx,hw,q⟩:=h;cases rx;obtain⟨its,r,ht,hz⟩:=I.tuple hx;have hlen:its.toArray.size=xs.length:=by rw[D0];exact r.length.symm
 refine⟨"tuple",_,PyProof.Rows.slot_tuple_getitem.lookup,ht.typeIs,?_⟩;refine HT.getItem_tuple_cut ht hs pl pu (by rw[hlen];exact hw) ?_ (by rw[hlen];exact hz);rw[hlen];refine⟨.ref s.heap.objs.size,_,I.laid (t':=s.toks) (o:=.tup (yG xs lo hi)) (fun b ob q=>A2 _ q) (A7 _) ?_,rfl,q _ (I.hok.fresh (A7 _))⟩;exact⟨C8 (zQ xs lo hi) hz,_,(r.drop (HT.sIx xs.length 0 lo)).take (HT.sIx xs.length xs.length hi-HT.sIx xs.length 0 lo),IsTup.new _ _⟩
noncomputable def aCm(K:Fg):R2:=fun x y H Q=>∃a b xs ys,x=.ref a/\y=.ref b/\SqT K H a xs/\SqT K H b ys/\xs≠[]/\xs.length+ys.length<=sizeLine /\
 (ys=[]->Q (.ref a) H)/\(ys≠[]->∀p,H p=none->Q (.ref p) (upd H p (.tup (xs++ys))))
theorem bK.nil_iff{xs:List V}{us:List Value}(r:bK xs us):us=[]↔xs=[]:=by
 cases r with
 |nil=>simp
 |cons _ _=>simp
theorem aDU:OpR X (binaryOp .Add) (aCm X.K):=by
 sleep 13;obtain⟨a,b,xs,ys,rfl,rfl,ha,hb,hx,hz,q1,q2⟩:=h;cases rx;cases ry;obtain⟨its,r1,p1,_⟩:=I.tuple ha;obtain⟨its2,r2,p2,_⟩:=I.tuple hb;refine HT.cat_tup p1 p2 (fun z=>hx (r1.nil_iff.mp z)) (fun z=>⟨.ref a,H,I,rfl,q1 (r2.nil_iff.mp z)⟩) (fun z=>?_) (by rw[<- r1.length,<- r2.length];exact hz);refine⟨.ref s.heap.objs.size,_,I.laid (t':=s.toks) (o:=.tup (xs++ys)) (fun b ob q=>A2 _ q) (A7 _) ?_,rfl,q2 (fun w=>z (r2.nil_iff.mpr w)) _ (I.hok.fresh (A7 _))⟩;exact⟨by rw[A9];exact hz,_,r1.append r2,IsTup.new _ _⟩
end
noncomputable def ixN(n:Nat)(i:Int):Option Nat:=if 0<=i then(if i<n then some i.toNat else none)else if -(n:Int)<=i then some (i+n).toNat else none
noncomputable def atI{α:Type}(xs:List α)(i:Int):Option α:=(ixN xs.length i).bind fun j=>xs[j]?
theorem UT{n:Nat}{i:Int}{j:Nat}(h:ixN n i=some j):seqIndex? i n=some j/\j<n/\-(n:Int)<=i/\i<n:=by
 unfold ixN at h;by_cases h0:0<=i
 .rw[A3 h0]at h;by_cases h1:i<n
  .rw[A3 h1]at h;have e:i.toNat=j:=D2 h;exact⟨by rw[seqIndex_of h0 h1,e],by omega,by omega,h1⟩
  .rw[A5 h1]at h;cases h
 .rw[A5 h0]at h;by_cases h1:-(n:Int)<=i
  .rw[A3 h1]at h;have e:(i+n).toNat=j:=D2 h;exact⟨by rw[seqIndex_neg (by omega) h1,e],by omega,h1,by omega⟩
  .rw[A5 h1]at h;cases h
theorem ID{α:Type}{xs:List α}{i:Int}{v:α}(h:atI xs i=some v):∃j,seqIndex? i xs.length=some j/\xs[j]?=some v/\j<xs.length/\-(xs.length:Int)<=i/\i<xs.length:=by
 unfold atI at h;cases e:ixN xs.length i with
 |none=>rw[e]at h;cases h
 |some j=>
  rw[e]at h;obtain⟨h1,h2,h3,h4⟩:=UT e;exact⟨j,h1,h,h2,h3,h4⟩
theorem AN{α:Type}{xs:List α}{j:Nat}{v:α}(h:xs[j]?=some v):atI xs (j:Int)=some v:=by
 have hj:j<xs.length:=(List.getElem?_eq_some_iff.mp h).1
 have e:ixN xs.length (j:Int)=some j:=by
  unfold ixN;rw[A3 (by omega),A3 (by omega)];simp
 unfold atI;rw[e];exact h
noncomputable def UG(b:Expr):Prop:=∀o i,subscripted b false o i=operate [o,i] (getItem o i)
noncomputable def IxR(X:Cx)(r:R2):Prop:=
 ∀(value slice:Expr)(pins:List (Addr×Obj))(s:Shared)(σ:St)(H:Hp)(x y:V)(v u:Value)(Q:VK),Inv X pins σ H s->RelV x v->RelV y u->r x y H Q->
  subscripted slice false v u=operate [v,u] (getItem v u)->wpAny (model X.prog X.w) X.A (subscriptTail value slice v u) (EP X pins σ Q) X.xe s
noncomputable def MtR(X:Cx)(id:String)(r:V->List V->Hp->VK->Prop):Prop:=
 ∀(pins:List (Addr×Obj))(s:Shared)(σ:St)(H:Hp)(x:V)(xs:List V)(v:Value)(us:List Value)(Q:VK),Inv X pins σ H s->RelV x v->bK xs us->r x xs H Q->
  wpAny (model X.prog X.w) X.A (call (.builtin id) (v::us)) (EP X pins σ Q) X.xe s
section
variable{X:Cx}{a b:Expr}{ta tb:TE}{pos:Pos}
theorem IxR.or{r r':R2}(h:IxR X r)(h':IxR X r'):IxR X (fun x y H Q=>r x y H Q\/r' x y H Q):=by
 intro value slice pins s σ H x y v u Q I rx ry q hs;rcases q with q|q
 .exact h value slice pins s σ H x y v u Q I rx ry q hs
 .exact h' value slice pins s σ H x y v u Q I rx ry q hs
theorem aIY{r:R2}(hr:IxR X r)(ha:PE X a ta)(hb:PE X b tb)(hs:UG b):PE X (.Subscript a b pos) (tOp r ta tb):=by
 sleep 10;exact Subscript_ (aFO ha hb I h fun v u s2 x y H2 I2 rx ry q=>hr a b pins s2 σ H2 x y v u Q I2 rx ry q (hs _ _))
noncomputable def aJr(K:Fg):R2:=fun x y H Q=>∃p xs i v,x=.ref p/\y=.int i/\SqL K H p xs/\atI xs i=some v/\Q v H
noncomputable def aJO(K:Fg):R2:=fun x y H Q=>∃p xs i v,x=.ref p/\y=.int i/\SqT K H p xs/\atI xs i=some v/\Q v H
noncomputable def aJQ:R2:=fun x y H Q=>∃z i c,x=.str z/\y=.int i/\z.length<=sizeLine/\atI z.cps.toList i=some c/\Q (.str ⟨#[c]⟩) H
theorem ix_list:IxR X (aJr X.K):=by
 intro value slice pins s σ H x y v u Q I rx ry h hs;obtain⟨p,xs,i,z,rfl,rfl,hq,he,q⟩:=h;cases rx;obtain⟨t,rfl⟩:=ry;obtain⟨its,r,pl,hz⟩:=I.list hq;obtain⟨j,h1,h2,h3,h4,h5⟩:=ID he;obtain⟨w,ew,rw'⟩:=r.get h2;have hl:=r.length;have hn:=yN;have fin:EP X pins σ Q w s:=⟨z,H,I,rw',q⟩;by_cases h0:0<=i
 .have hj:i.toNat=j:=by
   rw[seqIndex_of h0 h5]at h1;exact D2 h1
  exact item_listR pl.isList h0 (by omega) (by rw[hj];simpa using ew) fin hs
 .have hj:(i+(its.toArray.size:Int)).toNat=j:=by
   rw[seqIndex_neg (by omega) h4]at h1;rw[D0,<- hl];exact D2 h1
  exact subscriptTail_builtinR (x:=w) pl.isList.typeIs slot_list_getitem.lookup
   (wpAny_getItem_list_neg (Q:=fun r s'=>r=w/\EP X pins σ Q r s') pl.isList (by omega) (by rw[D0]<;>omega) (by omega) (by rw[hj];simpa using ew) ⟨rfl,fin⟩) hs
theorem ix_tup:IxR X (aJO X.K):=by
 intro value slice pins s σ H x y v u Q I rx ry h hs;obtain⟨p,xs,i,z,rfl,rfl,hq,he,q⟩:=h;cases rx;obtain⟨t,rfl⟩:=ry;obtain⟨its,r,pl,hz⟩:=I.tuple hq;obtain⟨j,h1,h2,h3,h4,h5⟩:=ID he;obtain⟨w,ew,rw'⟩:=r.get h2;have hl:=r.length;have hn:=yN;have fin:EP X pins σ Q w s:=⟨z,H,I,rw',q⟩
 exact subscriptTail_builtinR (x:=w) pl.typeIs slot_tuple_getitem.lookup
  (getItem_tuple (j:=j) (Q:=fun r s'=>r=w/\EP X pins σ Q r s') pl (by omega) (by omega) (by rw[D0,<- hl];exact h1) (by simpa using ew) ⟨rfl,fin⟩) hs
theorem aFU:IxR X aJQ:=by
 intro value slice pins s σ H x y v u Q I rx ry h hs;obtain⟨z,i,c,rfl,rfl,hz,he,q⟩:=h;obtain⟨t,rfl⟩:=rx;obtain⟨t',rfl⟩:=ry;obtain⟨j,h1,h2,h3,h4,h5⟩:=ID he;have hl:z.cps.toList.length=z.length:=by simp[Str.length]
 rw[hl]at h1 h4 h5;have hn:=yN
 exact tail_any (typeIs_str s z t) slot_str_getitem.lookup (getItem_str (c:=c) (by
  have e1:decide (i < -(2 ^ 63:Int))=false:=B9 (by omega);have e2:decide (i>=2 ^ 63)=false:=B9 (by omega);rw[e1,e2,Bool.or_false]) (by rw[h1];simpa using h2) ⟨.str ⟨#[c]⟩,H,I.tok _,⟨_,rfl⟩,q⟩) hs
noncomputable def rIx(K:Fg):R2:=fun x y H Q=>aJr K x y H Q\/aJO K x y H Q\/aJQ x y H Q
theorem aHI:IxR X (rIx X.K):=ix_list.or (ix_tup.or aFU)
theorem RF(its:List Value)(n j:Nat)(u:Value):Obj.mapSeq (·.setIfInBounds j u) { cls:=.type "list",data:=.seq its.toArray n }={ cls:=.type "list",data:=.seq (its.set j u).toArray n }:=by
 simp[Obj.mapSeq]
theorem Inv.lst{pins:List (Addr×Obj)}{p:Addr}{xs:List V}(I:Inv X pins σ H s)(h:H p=some (.lst xs)):
 ∃(its:List Value)(n:Nat),bK xs its/\s.heap.get? p=some { cls:=.type "list",data:=.seq its.toArray n }/\xs.length<=sizeLine:=by
 obtain⟨z,its,n,r,e⟩:=I.hok p _ h;exact⟨its,n,r,e,z⟩
theorem Inv.lstUpd{pins:List (Addr×Obj)}{p:Addr}{xs ys:List V}{its its':List Value}{n n':Nat}{f:Obj->Obj}(I:Inv X pins σ H s)(h:H p=some (.lst xs))
 (ho:s.heap.get? p=some { cls:=.type "list",data:=.seq its.toArray n }) (hf:f { cls:=.type "list",data:=.seq its.toArray n }={ cls:=.type "list",data:=.seq its'.toArray n' }) (r:bK ys its') (hz:ys.length<=sizeLine) (t:Nat):
 Inv X pins σ (upd H p (.lst ys)) { s with heap:=s.heap.update p f,toks:=t }:=by
 have e:(s.heap.update p f).get? p=some { cls:=.type "list",data:=.seq its'.toArray n' }:=by
  rw[F8 f ho (by rw[hf]<;>rfl),hf]
 refine I.write (x:=p) (e:=p) (by rw[h];trivial) (.inl rfl) (fun b u hb q=>(D9 _ _ (F4 hb)).trans q) ⟨_,e⟩ ?_;exact⟨hz,its',n',r,e⟩
noncomputable def aFy:V->V->V->Hp->(Hp->Prop)->Prop:=fun o i v H Q=>∃p xs k j,o=.ref p/\i=.int k/\H p=some (.lst xs)/\ixN xs.length k=some j/\Q (upd H p (.lst (xs.set j v)))
theorem set_list:aHG X aFy:=by
 intro pins s σ H o i v ov iv u Q I ro ri rv h;obtain⟨p,xs,k,j,rfl,rfl,hp,hj,q⟩:=h;cases ro;obtain⟨t,rfl⟩:=ri;obtain⟨its,n,r,ho,hz⟩:=I.lst hp;obtain⟨h1,h2,h3,h4⟩:=UT hj;have hl:=r.length;have hn:=yN
 have I':Inv X pins σ (upd H p (.lst (xs.set j v))) { s with heap:=s.heap.update p (Obj.mapSeq (·.setIfInBounds j u)) }:=
  I.lstUpd hp ho (RF its n j u) (r.set rv j) (by rw[U1];exact hz) s.toks
 by_cases h0:0<=k
 .have hk:k.toNat=j:=by
   rw[seqIndex_of h0 h4]at h1;exact D2 h1
  exact PySem.W.ki_setAt ho h0 (by omega) (by rw[D0,<- hl];exact h4) (by rw[hk];exact⟨_,I',q⟩)
 .have hk:(k+(its.toArray.size:Int)).toNat=j:=by
   rw[seqIndex_neg (by omega) h3]at h1;rw[D0,<- hl];exact D2 h1
  exact PySem.W.ki_setBack ho (by omega) (by rw[D0,<- hl];exact h3) (by omega) (by rw[hk];exact⟨_,I',q⟩)
theorem II(lo hi:Option Int)(n:Nat):(sliceBounds lo hi none n).1=((HT.sIx n 0 lo:Nat):Int)/\(sliceBounds lo hi none n).2.1=((HT.sIx n n hi:Nat):Int)/\(sliceBounds lo hi none n).2.2=1:=by
 refine⟨?_,?_,rfl⟩
 .cases lo with
  |none=>simp[sliceBounds,HT.sIx]
  |some i=>
   simp only[sliceBounds,HT.sIx,Option.getD_none,show(1:Int) > 0 by decide,if_true];by_cases h:i<0
   .simp only[h,if_true]<;>omega
   .simp only[h,if_false]<;>omega
 .cases hi with
  |none=>simp[sliceBounds,HT.sIx]
  |some i=>
   simp only[sliceBounds,HT.sIx,Option.getD_none,show(1:Int) > 0 by decide,if_true];by_cases h:i<0
   .simp only[h,if_true]<;>omega
   .simp only[h,if_false]<;>omega
theorem FD(its:List Value)(lo hi:Option Int):slicePick its.toArray lo hi none=((its.drop (HT.sIx its.length 0 lo)).take (HT.sIx its.length its.length hi-HT.sIx its.length 0 lo)).toArray:=by
 obtain⟨h1,h2,h3⟩:=II lo hi its.toArray.size;unfold slicePick;rw[h1,h2,h3];simp only[sliceRange_one,pick_run,List.size_toArray]<;>rfl
noncomputable def aJm(K:Fg):V->Option Int->Option Int->Hp->VK->Prop:=fun x lo hi H Q=>∃a xs,x=.ref a/\SqL K H a xs/\∀p,H p=none->Q (.ref p) (upd H p (.lst (yG xs lo hi)))
theorem sl_list:SlR X (aJm X.K):=by
 intro pins s σ H x v vl vu lo hi sl Q I rx hs pl pu h;obtain⟨a,xs,rfl,hx,q⟩:=h;cases rx;obtain⟨its,r,ht,hz⟩:=I.list hx;have hlen:=r.length;refine⟨"list",_,slot_list_getitem.lookup,ht.isList.typeIs,?_⟩;refine wpAny_getItem_list_slice ht.isList hs pl pu .none (by simp) ?_ (by rw[D0]<;>omega);rw[FD,<- hlen];refine⟨.ref s.heap.objs.size,_,I.laid (t':=s.toks) (o:=.lst (yG xs lo hi)) (fun b ob q=>A2 _ q) (A7 _) ?_,rfl,q _ (I.hok.fresh (A7 _))⟩;exact⟨C8 (zQ xs lo hi) hz,_,0,(r.drop (HT.sIx xs.length 0 lo)).take (HT.sIx xs.length xs.length hi-HT.sIx xs.length 0 lo),B7 _ rfl⟩
theorem JA:gO X (.builtin "len") (fun xs H Q=>∃p ys,xs=[.ref p]/\(SqL X.K H p ys\/SqT X.K H p ys)/\Q (.int ys.length) H):=by
 intro pins s σ H xs us Q I r h;obtain⟨p,ys,rfl,hq,q⟩:=h;obtain⟨u,rfl,rx⟩:=vals1 r;cases rx;have hn:=yN;rcases hq with hq|hq
 .obtain⟨its,r',pl,hz⟩:=I.list hq;have hlen:=r'.length;exact Calls.call_len_list pl.isList (by simp only[List.size_toArray]<;>omega) ⟨.int ys.length,H,I.tok _,⟨s.toks+1,by rw[D0,hlen]⟩,q⟩
 .obtain⟨its,r',pl,hz⟩:=I.tuple hq;have hlen:=r'.length;exact len_tuple pl (by simp only[List.size_toArray]<;>omega) ⟨.int ys.length,H,I.tok _,⟨s.toks+1,by rw[D0,hlen]⟩,q⟩
theorem JX:gO X (.type "list") (fun xs H Q=>∃p ys,xs=[.ref p]/\(SqL X.K H p ys\/SqT X.K H p ys)/\∀l,H l=none->Q (.ref l) (upd H l (.lst ys))):=by
 intro pins s σ H xs us Q I r h;obtain⟨p,ys,rfl,hq,q⟩:=h;obtain⟨u,rfl,rx⟩:=vals1 r;cases rx
 have fin:∀(its:List Value),bK ys its->ys.length<=sizeLine->∀(h':Heap)(c':Nat),(∀b o',s.heap.get? b=some o'->h'.get? b=some o')->
  h'.get? s.heap.objs.size=some { cls:=.type "list",dict:=none,data:=.seq its.toArray c',slots:=#[] }->EP X pins σ Q (.ref s.heap.objs.size) { s with heap:=h' }:=fun its r' hz h' c' kp e=>
  ⟨.ref s.heap.objs.size,_,I.laid (t':=s.toks) kp (A7 _) (show dM X.prog X.w _ h' _ (.lst ys)from⟨hz,its,c',r',e⟩),rfl,q _ (I.hok.fresh (A7 _))⟩
 rcases hq with hq|hq
 .obtain⟨its,r',pl,hz⟩:=I.list hq;have hlen:=r'.length;obtain⟨o,ho,hc,n,hd⟩:=pl.isList;exact call_list_seq p (.inl rfl) ho hc hd (fun h' c' kp e=>fin its r' hz h' c' kp e) (by simp only[List.size_toArray]<;>omega)
 .obtain⟨its,r',pl,hz⟩:=I.tuple hq;have hlen:=r'.length;obtain⟨o,ho,hc,n,hd⟩:=pl;exact call_list_seq p (.inr rfl) ho hc hd (fun h' c' kp e=>fin its r' hz h' c' kp e) (by simp only[List.size_toArray]<;>omega)
theorem FL:gO X (.type "tuple") (fun xs H Q=>∃p ys,xs=[.ref p]/\((SqL X.K H p ys/\∀l,H l=none->Q (.ref l) (upd H l (.tup ys)))\/(SqT X.K H p ys/\Q (.ref p) H))):=by
 intro pins s σ H xs us Q I r h;obtain⟨p,ys,rfl,h⟩:=h;obtain⟨u,rfl,rx⟩:=vals1 r;cases rx;rcases h with⟨hq,q⟩|⟨hq,q⟩
 .obtain⟨its,r',pl,hz⟩:=I.list hq;have hlen:=r'.length;refine call_tuple_list pl.isList (fun h' kp=>?_) (by simp only[List.size_toArray]<;>omega);have I1:Inv X pins σ H { s with heap:=h' }:=I.kept (t':=s.toks) kp
  have I2:Inv X pins σ (upd H h'.objs.size (.tup ys)) { s with heap:=h'.push { cls:=.type "tuple",data:=.seq its.toArray } }:=
   I1.laid (t':=s.toks) (fun b o e=>A2 _ e) (A7 _) (show dM X.prog X.w _ _ _ (.tup ys)from⟨hz,its,r',IsTup.new _ _⟩)
  exact⟨.ref h'.objs.size,_,I2,rfl,q _ (I1.hok.fresh (A7 _))⟩
 .obtain⟨its,r',pl,hz⟩:=I.tuple hq;exact call_tuple_same pl ⟨.ref p,H,I,rfl,q⟩
noncomputable def tyV(K:Fg)(T:String)(x:V)(H:Hp):Prop:=match x with
 |.str _=>T="str"
 |.int _=>T="int"
 |.ref p=>(T="list"/\∃xs,SqL K H p xs)\/(T="tuple"/\∃o,K.lookup p=some o/\o.cls=.type "tuple"/\o.dict=none) \/
  (T="dict"/\((∃kvs,H p=some (.dK kvs))\/∃kvs,H p=some (.dT kvs)))\/(T="set"/\∃S n,H p=some (.set S n))
 |_=>False
theorem aHm{pins:List (Addr×Obj)}{T:String}{x:V}{v:Value}(I:Inv X pins σ H s)(r:RelV x v)(ty:tyV X.K T x H):
 s.TypeIs v T/\∀a,v=.ref a->∃ob,s.heap.get? a=some ob/\ob.dict=none:=by
 cases x with
 |str z=>
  obtain⟨t,rfl⟩:=r;cases (show T="str" from ty);exact⟨typeIs_str s z t,fun _ e=>nomatch e⟩
 |int i=>
  obtain⟨t,rfl⟩:=r;cases (show T="int" from ty);exact⟨typeIs_int s i t,fun _ e=>nomatch e⟩
 |ref p=>
  cases r;rcases ty with⟨rfl,xs,hq⟩|⟨rfl,o,hk,hc,hd⟩|⟨rfl,hk⟩|⟨rfl,S,n,hk⟩
  .obtain⟨its,_,pl,_⟩:=I.list hq;refine⟨pl.isList.typeIs,fun a e=>?_⟩;cases e;obtain⟨o,n,e,c,hd,_⟩:=pl;exact⟨o,e,hd⟩
  .refine⟨⟨o,I.kIn p o hk,hc⟩,fun a e=>?_⟩;cases e;exact⟨o,I.kIn _ o hk,hd⟩
  .have z:∃o,s.heap.get? p=some o/\o.ExactDict:=by
    rcases hk with⟨kvs,hk⟩|⟨kvs,hk⟩
    .obtain⟨_,_,_,_,o,_,_,e,ex,_⟩:=I.hok p _ hk;exact⟨o,e,ex⟩
    .obtain⟨_,_,_,_,o,_,_,e,ex,_⟩:=I.hok p _ hk;exact⟨o,e,ex⟩
   obtain⟨o,e,ex⟩:=z;refine⟨⟨o,e,ex.1⟩,fun a e2=>?_⟩;cases e2;exact⟨o,e,ex.2.1⟩
  .obtain⟨o,_,_,_,e,ex,_⟩:=I.hok p _ hk;refine⟨⟨o,e,ex.1⟩,fun a e2=>?_⟩;cases e2;exact⟨o,e,ex.2.1⟩
 |_=>exact False.elim ty
noncomputable def tBM(K:Fg)(T:String)(r:V->List V->Hp->VK->Prop)(to:TE)(t:TA):TE:=fun σ H Q=>to σ H fun x H1=>tyV K T x H1/\t σ H1 fun xs H2=>r x xs H2 Q
variable{o e:Expr}{es:List Expr}{to:TE}{t:TA}{name:Str}{apos cpos:Pos}{T id:String}{r:V->List V->Hp->VK->Prop}
theorem aKe(pa:PlainAttrs T)(slot:Slot T name id)(hty:typeOf (.builtin id)=pure (.type "method_descriptor"))(hm:MtR X id r)(ho:PE X o to)(ha:PA X (e::es) t)
 (hbase:attributeBase o name X.env (eval o X.env)=eval o X.env:=by rfl)
 (hfew:((backTo cpos (starEach (e::es) X.env)).all (fun x=>!x.1)&&(backToKw cpos (keywordEach [] X.env)).all (fun x=>x.1.isSome)
  && decide ((e::es).length+([]:List Keyword).length+(if ([]:List Keyword).isEmpty then 0 else 1)<30))=true:=by rfl)
 (hline:(apos.endLine==cpos.line)=true:=by rfl) (hs:starEach (e::es) X.env=(false,eval e X.env)::starEach es X.env:=by rfl) (hplain:(backTo cpos (starEach es X.env)).any (·.1)=false:=by rfl):
 PE X (.Call (.Attribute o name apos) (e::es) [] cpos) (tBM X.K T r to t):=by
 sleep 10;refine wpAny_Call_method_late hbase hfew hline rfl (thn (ho pins s σ H _ I h) fun v s1 ⟨x,H1,I1,r1,ty,q1⟩=>?_);obtain⟨h1,h2⟩:=aHm I1 r1 ty;refine⟨T,id,pa,slot,hty,h1,h2,?_⟩;have hA:=ha cpos pins s1 σ H1 _ I1 q1;rw[hs]at hA ⊢;refine Calls.callWith_builtin (by show(false || (backTo cpos (starEach es X.env)).any (·.1))=false;rw[hplain]<;>rfl) (Calls.evalArgs_plain ?_);exact thn hA fun us s2 ⟨vs,H2,I2,r2,q2⟩=>hm pins s2 σ H2 x vs v us Q I2 r1 r2 q2
end
noncomputable def MtM(X:Cx)(id:String)(r:V->List V->Hp->VK->Prop):Prop:=
 ∀(pins:List (Addr×Obj))(s:Shared)(σ:St)(H:Hp)(x:V)(xs:List V)(v:Value)(us:List Value)(Q:VK),Inv X pins σ H s->RelV x v->bK xs us->r x xs H Q->
  wpAny (model X.prog X.w) X.A (call (.builtin id) (v::us)) (EP X pins σ Q) X.xe s
theorem bK.one:∀{x:V}{us:List Value},bK [x] us->∃u,us=[u]/\RelV x u
 |_,_,.cons r .nil=>⟨_,rfl,r⟩
section
variable{X:Cx}{pins:List (Addr×Obj)}{σ:St}{H:Hp}{s:Shared}{l b:Addr}{xs ys zs:List V}
theorem Inv.lset{its its':List Value}{n:Nat}{f:Array Value->Array Value}{t':Nat}(I:Inv X pins σ H s)(hH:H l=some (.lst xs))
 (e:s.heap.get? l=some { cls:=.type "list",data:=.seq its.toArray n }) (hf:f its.toArray=its'.toArray) (hv:bK ys its') (hz:ys.length<=sizeLine):
 Inv X pins σ (upd H l (.lst ys)) { s with heap:=s.heap.update l (Obj.mapSeq f),toks:=t' }:=by
 have q:=PySem.IsL.update e f;rw[hf]at q;refine I.write (x:=l) (e:=l) (by rw[hH];exact trivial) (.inl rfl) (fun b' u hb hu=>(D9 s.heap (Obj.mapSeq f) (F4 hb)).trans hu) ⟨_,q⟩ ?_;exact⟨hz,its',_,hv,q⟩
theorem Inv.lnew{its:List Value}{t':Nat}(I:Inv X pins σ H s)(hv:bK ys its)(hz:ys.length<=sizeLine):
 Inv X pins σ (upd H s.heap.objs.size (.lst ys)) { s with heap:=s.heap.push { cls:=.type "list",data:=.seq its.toArray },toks:=t' }:=
 I.laid (fun _ _ q=>A2 _ q) (A7 _) ⟨hz,its,0,hv,B7 _ rfl⟩
theorem Inv.fresh(I:Inv X pins σ H s):H s.heap.objs.size=none:=I.hok.fresh (A7 _)
theorem Inv.lstM(I:Inv X pins σ H s)(hH:H l=some (.lst xs)):xs.length<=sizeLine/\∃(its:List Value)(n:Nat),bK xs its/\xs.length=its.length/\s.heap.get? l=some { cls:=.type "list",data:=.seq its.toArray n }:=by
 obtain⟨z,its,n,r,e⟩:=I.hok l _ hH;exact⟨z,its,n,r,r.length,e⟩
end
section
variable{X:Cx}
noncomputable def SQ:V->List V->Hp->VK->Prop:=fun x vs H Q=>∃l xs y,x=.ref l/\vs=[y]/\H l=some (.lst xs)/\xs.length<sizeLine/\Q .non (upd H l (.lst (xs++[y])))
theorem WL:MtM X "list.append" SQ:=by
 intro pins s σ H x vs v us Q I rx rv h;obtain⟨l,xs,y,rfl,rfl,hH,hz,q⟩:=h;cases rx;obtain⟨u,rfl,ru⟩:=rv.one;obtain⟨z,its,n,r,hl,e⟩:=I.lstM hH;refine call_meets F.slot_list_append ⟨_,e,rfl⟩ F.entry_list_append (F.args_list_append_2 _ _) (PySem.list_append l its.toArray n u (by rw[D0];omega)) ⟨e,?_⟩;refine⟨.non,_,I.lset (its':=its++[u]) hH e (by simp) (r.append (.cons ru .nil)) ?_,rfl,q⟩;rw[A9,L5];omega
end
section
variable{κ:Type}[DecidableEq κ]
noncomputable def jN(kvs:List (κ×V))(k:κ):Option V:=(kvs.find? fun kv=>decide (kv.1=k)).map (·.2)
noncomputable def putK(kvs:List (κ×V))(k:κ)(v:V):List (κ×V):=
 if (kvs.any fun kv=>decide (kv.1=k))=true then kvs.map (fun kv=>if kv.1=k then(kv.1,v)else kv)else kvs++[(k,v)]
theorem DZ{p:κ×V}{r:List (κ×V)}{k:κ}(e:p.1=k):jN (p::r) k=some p.2:=by simp[jN,List.find?_cons,e]
theorem DA{p:κ×V}{r:List (κ×V)}{k:κ}(e:¬p.1=k):jN (p::r) k=jN r k:=by simp[jN,List.find?_cons,e]
theorem EL(k:κ):∀kvs:List (κ×V),(kvs.any fun kv=>decide (kv.1=k))=(jN kvs k).isSome
 |[]=>rfl
 |p::r=>by
  rw[L6];by_cases e:p.1=k
  .simp only[DZ e,decide_eq_true e,Bool.true_or,Option.isSome_some]
  .rw[DA e,B9 e,Bool.false_or];exact EL k r
theorem kK(kvs:List (κ×V))(k:κ)(v:V):(putK kvs k v).length<=kvs.length+1:=by
 unfold putK;split
 .rw[A8];omega
 .rw[A9,C0,O6];omega
theorem ZK{kvs:List (κ×V)}{k:κ}(v:V)(h:jN kvs k=none):putK kvs k v=kvs++[(k,v)]:=by
 unfold putK;rw[EL,h];exact A5 (by decide)
theorem yA.isSome_eq{o:Option V}{u:Option Value}(r:yA o u):o.isSome=u.isSome:=by
 cases o with
 |none=>cases u with
  |none=>rfl
  |some _=>exact(show False from r).elim
 |some _=>cases u with
  |none=>exact(show False from r).elim
  |some _=>rfl
theorem KV.val{kvs:List (κ×V)}{vs:List (κ×Value)}(r:KV kvs vs)(k:κ):yA (jN kvs k) (valueAt vs k):=by
 unfold KV at r
 induction r with
 |nil=>exact True.intro
 |@cons p q ps qs h t ih=>
  obtain⟨h1,h2⟩:=h;by_cases e:p.1=k
  .have e':q.1=k:=h1.symm.trans e;have b:valueAt (q::qs) k=some q.2:=by simp[valueAt,List.find?_cons,e']
   rw[DZ e,b];exact h2
  .have e':¬q.1=k:=fun z=>e (h1.trans z);have b:valueAt (q::qs) k=valueAt qs k:=by simp[valueAt,List.find?_cons,e']
   rw[DA e,b];exact ih
theorem KV.any{kvs:List (κ×V)}{vs:List (κ×Value)}(r:KV kvs vs)(k:κ):(kvs.any fun kv=>decide (kv.1=k))=vs.any fun kv=>decide (kv.1=k):=by
 unfold KV at r
 induction r with
 |nil=>rfl
 |cons h t ih=>rw[L6,L6,ih,h.1]
theorem KV.repl{kvs:List (κ×V)}{vs:List (κ×Value)}(r:KV kvs vs)(k:κ){y:V}{u:Value}(ry:RelV y u):
 KV (kvs.map fun kv=>if kv.1=k then(kv.1,y)else kv) (vs.map fun kv=>if kv.1=k then(kv.1,u)else kv):=by
 unfold KV at r ⊢
 induction r with
 |nil=>exact .nil
 |@cons p q ps qs h t ih=>
  rw[C4,C4];refine .cons ?_ ih;obtain⟨h1,h2⟩:=h;by_cases e:p.1=k
  .rw[A3 e,A3 (h1.symm.trans e)];exact⟨h1,ry⟩
  .rw[A5 e,A5 (fun z=>e (h1.trans z))];exact⟨h1,h2⟩
theorem KV.put{kvs:List (κ×V)}{vs:List (κ×Value)}(r:KV kvs vs)(k:κ){y:V}{u:Value}(ry:RelV y u):KV (putK kvs k y) (stored vs k u):=by
 unfold putK stored;rw[r.any k];by_cases e:(vs.any fun kv=>decide (kv.1=k))=true
 .rw[A3 e,A3 e];exact r.repl k ry
 .rw[A5 e,A5 e];exact Paired.snoc r ⟨rfl,ry⟩
theorem KV.length{kvs:List (κ×V)}{vs:List (κ×Value)}(r:KV kvs vs):kvs.length=vs.length:=Y9 r
end
theorem NA{P:Program}{w:World}{k:Key}{u:Value}(r:RelV (kV k) u):(eE P w).is k u=true:=by
 cases k with
 |inl i=>obtain⟨t,e⟩:=(show ∃t,u=Value.int i t from r);subst e;exact LB P w i t
 |inr x=>obtain⟨t,e⟩:=(show ∃t,u=Value.str x t from r);subst e;exact OO P w x t
theorem HC{P:Program}{w:World}:∀{ks:List Key}{us:List Value},bK (ks.map kV) us->ItemsAre (eE P w) ks us
 |[],_=>fun r=>by rw[List.map_nil]at r;cases r;exact .nil
 |k::ks,_=>fun r=>by
  rw[C4]at r;cases r with
  |cons h t=>exact .cons (NA h) (HC t)
noncomputable abbrev KT(H:Hp):List (List Key×V)->List (List Key×Addr×Value)->Prop:=Paired fun p q=>p.1=q.1/\H q.2.1=some (.tup (p.1.map kV))/\RelV p.2 q.2.2
theorem KT.val{kvs:List (List Key×V)}{xs:List (List Key×Addr×Value)}(r:KT H kvs xs)(k:List Key):yA (jN kvs k) ((atKey xs k).map (·.2)):=by
 induction r with
 |nil=>exact True.intro
 |@cons p q ps qs h t ih=>
  obtain⟨h1,_,h2⟩:=h;by_cases e:p.1=k
  .have e':q.1=k:=h1.symm.trans e;have b:atKey (q::qs) k=some q.2:=by simp[atKey,List.find?_cons,e']
   rw[DZ e,b];exact h2
  .have e':¬q.1=k:=fun z=>e (h1.trans z);have b:atKey (q::qs) k=atKey qs k:=by simp[atKey,List.find?_cons,e']
   rw[DA e,b];exact ih
theorem KT.repl{kvs:List (List Key×V)}{xs:List (List Key×Addr×Value)}(r:KT H kvs xs)(k:List Key){y:V}{u:Value}(ry:RelV y u):
 KT H (kvs.map fun kv=>if kv.1=k then(kv.1,y)else kv) (xs.map (putAt k u)):=by
 induction r with
 |nil=>exact .nil
 |@cons p q ps qs h t ih=>
  rw[C4,C4];refine .cons ?_ ih;obtain⟨h1,h2,h3⟩:=h;unfold putAt;by_cases e:p.1=k
  .rw[A3 e,A3 (h1.symm.trans e)];exact⟨h1,h2,ry⟩
  .rw[A5 e,A5 (fun z=>e (h1.trans z))];exact⟨h1,h2,h3⟩
theorem KT.put{kvs:List (List Key×V)}{xs:List (List Key×Addr×Value)}(r:KT H kvs xs)(k:List Key){b:Addr}{y:V}{u:Value}(hb:H b=some (.tup (k.map kV)))(ry:RelV y u):
 KT H (putK kvs k y) (storedH xs k b u):=by
 have e:(kvs.any fun kv=>decide (kv.1=k))=(atKey xs k).isSome:=by
  rw[EL,(r.val k).isSome_eq,Option.isSome_map]
 unfold putK storedH;rw[e];by_cases q:(atKey xs k).isSome=true
 .rw[A3 q,A3 q];exact r.repl k ry
 .rw[A5 q,A5 q];exact Paired.snoc r ⟨rfl,hb,ry⟩
theorem KT.keeps{H':Hp}{kvs:List (List Key×V)}{xs:List (List Key×Addr×Value)}(r:KT H kvs xs)(ht:∀b ys,H b=some (.tup ys)->H' b=some (.tup ys)):KT H' kvs xs:=
 Paired.mapP r fun _ _ z=>⟨z.1,ht _ _ z.2.1,z.2.2⟩
section
variable{P:Program}{w:World}{H:Hp}{h:Heap}{a:Addr}
theorem aFs{u:HO}(ok:HOk P w H h)(e:Rd H a u):dM P w H h a u:=e.ok ok
theorem aFg{kvs:List (Key×V)}(ok:HOk P w H h)(e:Rd H a (.dK kvs)):kvs.length<=sizeLine/\(a==sysModules)=false/\∃vs,KV kvs vs/\h.DictOf (eE P w) a vs:=
 show dM P w H h a (.dK kvs)from aFs ok e
theorem aBw{kvs:List (Key×V)}(ok:HOk P w H h)(e:H a=some (.dK kvs)):kvs.length<=sizeLine/\(a==sysModules)=false/\∃vs,KV kvs vs/\h.DictOf (eE P w) a vs:=aFg ok (.inl e)
theorem IF{ks:List Key}(ok:HOk P w H h)(e:H a=some (.tup (ks.map kV))):(tupleKind (eE P w)).is h ks a:=by
 obtain⟨_,its,r,o,h1,h2,n,h3⟩:=(show dM P w H h a (.tup (ks.map kV))from ok a _ e);exact⟨o,its.toArray,n,h1,h2,h3,by simpa using HC r⟩
theorem aEW{kvs:List (List Key×V)}(ok:HOk P w H h)(e:Rd H a (.dT kvs)):kvs.length<=sizeLine/\(a==sysModules)=false /\
 ∃xs,KT H kvs xs/\h.DictOfH (tupleKind (eE P w)) a xs:=by
 obtain⟨z,y,xs,r,o,es,ep,h1,h2,h3,h4,h5⟩:=(show dM P w H h a (.dT kvs)from aFs ok e);refine⟨z,y,xs,r,o,es,ep,h1,h2,h3,h4,fun x hx=>?_,h5⟩
 have all:∀{l:List (List Key×V)}{m:List (List Key×Addr×Value)},KT H l m->∀x∈m,(tupleKind (eE P w)).is h x.1 x.2.1:=by
  intro l m q
  induction q with
  |nil=>intro x hx;exact nomatch hx
  |@cons p q ps qs hq t ih=>
   intro x hx;rcases List.mem_cons.mp hx with e|hx
   .subst e;exact IF ok (by rw[<- hq.1];exact hq.2.1)
   .exact ih x hx
 exact all r x hx
theorem aFe{kvs:List (List Key×V)}(ok:HOk P w H h)(e:H a=some (.dT kvs)):kvs.length<=sizeLine/\(a==sysModules)=false /\
 ∃xs,KT H kvs xs/\h.DictOfH (tupleKind (eE P w)) a xs:=aEW ok (.inl e)
end
noncomputable def IX(H:Hp)(a:Addr)(y:V)(r:Option V):Prop:=
 (∃kvs k,Rd H a (.dK kvs)/\y=kV k/\r=jN kvs k)\/∃kvs k b,Rd H a (.dT kvs)/\y=.ref b/\H b=some (.tup (k.map kV))/\r=jN kvs k
noncomputable def DR(H:Hp)(a:Addr)(y v:V)(H':Hp):Prop:=
 (∃kvs k,H a=some (.dK kvs)/\y=kV k/\kvs.length<sizeLine/\H'=upd H a (.dK (putK kvs k v))) \/
 ∃kvs k b,H a=some (.dT kvs)/\y=.ref b/\H b=some (.tup (k.map kV))/\kvs.length<sizeLine/\H'=upd H a (.dT (putK kvs k v))
theorem IX.k{a:Addr}{kvs:List (Key×V)}{k:Key}(e:H a=some (.dK kvs)):IX H a (kV k) (jN kvs k):=.inl ⟨kvs,k,.inl e,rfl,rfl⟩
theorem IX.t{a b:Addr}{kvs:List (List Key×V)}{k:List Key}(e:H a=some (.dT kvs))(eb:H b=some (.tup (k.map kV))):IX H a (.ref b) (jN kvs k):=.inr ⟨kvs,k,b,.inl e,rfl,eb,rfl⟩
theorem DR.k{a:Addr}{kvs:List (Key×V)}{k:Key}{v:V}(e:H a=some (.dK kvs))(hl:kvs.length<sizeLine):DR H a (kV k) v (upd H a (.dK (putK kvs k v))):=.inl ⟨kvs,k,e,rfl,hl,rfl⟩
theorem DR.t{a b:Addr}{kvs:List (List Key×V)}{k:List Key}{v:V}(e:H a=some (.dT kvs))(eb:H b=some (.tup (k.map kV)))(hl:kvs.length<sizeLine):
 DR H a (.ref b) v (upd H a (.dT (putK kvs k v))):=.inr ⟨kvs,k,b,e,rfl,eb,hl,rfl⟩
section
variable{X:Cx}{pins:List (Addr×Obj)}{σ:St}{H:Hp}{s:Shared}{a:Addr}{y v:V}{u r:Value}{o:Option V}{A:Around}{E:Value->Shared->Prop}
theorem Inv.big(I:Inv X pins σ H s):sysModules<s.heap.objs.size:=by
 have h:mainGlobals<s.heap.objs.size:=(I.mod.glob.keeps I.bk).lt;exact O1 (by decide) h
theorem aKD{Q:Value->Shared->Prop}(hu:A.units+1<cLine)(I:Inv X pins σ H s)(g:IX H a y o)(ry:RelV y u)(h:∀s',Inv X pins σ H s'->Q (.bool o.isSome) s'):
 wpAny (model X.prog X.w) A (compareOp .In u (.ref a)) Q E s:=by
 rcases g with⟨kvs,k,e,ey,l⟩|⟨kvs,k,b,e,ey,eb,l⟩
 .subst ey;obtain⟨z,hd,vs,rel,dd⟩:=aFg I.hok e;refine wpAny_in_of (NA ry) hd dd.mapOf ?_;rw[<- (rel.val k).isSome_eq,<- l];exact h _ (I.tok _)
 .subst ey;cases (show u=Value.ref b from ry);obtain⟨z,hd,xs,rel,dd⟩:=aEW I.hok e;refine wpAny_in_heap (tupleKind_room_in1 hu) (IF I.hok eb) hd dd ?_;have q:=(rel.val k).isSome_eq;rw[Option.isSome_map]at q;rw[<- q,<- l];exact h _ (I.tok _)
theorem xK{h':Heap}{t':Nat}{ob:HO}(I:Inv X pins σ H s)(mu:Mut (H a))(hs:Heap.SameBut a s.heap h')(he:∃q,h'.get? a=some q)(new:dM X.prog X.w (upd H a ob) h' a ob):
 Inv X pins σ (upd H a ob) { s with heap:=h',toks:=t' }:=
 I.write (x:=a) (e:=a) mu (.inl rfl) (fun b q hb z=>(hs.2 b hb).trans z) he new
theorem QP{P:Program}{w:World}{H':Hp}{h':Heap}{kvs:List (Key×V)}{vs:List (Key×Value)}(z:kvs.length<=sizeLine)(hd:(a==sysModules)=false)(rel:KV kvs vs)(dd:h'.DictOf (eE P w) a vs):
 dM P w H' h' a (.dK kvs):=⟨z,hd,vs,rel,dd⟩
theorem VU{H':Hp}{Q:Unit->Shared->Prop}(hu:A.units+1<cLine)(I:Inv X pins σ H s)(g:DR H a y v H')(ry:RelV y u)(rv:RelV v r)(h:∀s',Inv X pins σ H' s'->Q () s'):
 wpAny (model X.prog X.w) A (setItem (.ref a) u r) Q E s:=by
 rcases g with⟨kvs,k,e,ey,l,eH⟩|⟨kvs,k,b,e,ey,eb,l,eH⟩
 .subst ey eH;obtain⟨z,hd,vs,rel,dd⟩:=aBw I.hok e;have hz:vs.length<=sizeLine:=by rw[<- rel.length];exact z
  have hl:(putK kvs k v).length<=sizeLine:=by have:=kK kvs k v;omega
  refine wpAny_setItem_pairs (hsz:=hz) (NA ry) dd fun h' dd' hs=>h _ ?_;have he:∃q,h'.get? a=some q:=let⟨q,_,_,hq,_⟩:=dd';⟨q,hq⟩;exact xK I (by rw[e];exact True.intro) hs he (QP hl hd (rel.put k rv) dd')
 .subst ey eH;cases (show u=Value.ref b from ry);obtain⟨z,hd,xs,rel,dd⟩:=aFe I.hok e;have hz:xs.length<=sizeLine:=by rw[<- Y9 rel];exact z
  have hl:(putK kvs k v).length<=sizeLine:=by have:=kK kvs k v;omega
  refine wpAny_setItem_heap (hsz:=hz) (tupleKind_room_in1 hu) (IF I.hok eb) dd fun h' dd' hs=>h _ ?_;obtain⟨q,es,ep,hq,h2,h3,h4,_,h5⟩:=dd';refine xK I (by rw[e];exact True.intro) hs ⟨q,hq⟩ ⟨hl,hd,_,(rel.put k eb rv).keeps fun c ys ec=>?_,q,es,ep,hq,h2,h3,h4,h5⟩;rw[aL (zW ec e (fun z=>nomatch z))];exact ec
end
noncomputable def aJP(ty td:TE):TE:=fun σ H Q=>ty σ H fun y H1=>td σ H1 fun x H2=>∃a o,x=.ref a/\IX H2 a y o/\Q (.bl o.isSome) H2
noncomputable def aEV(td ty tv:TE):TS:=fun D σ H=>tv σ H fun v H1=>td σ H1 fun x H2=>ty σ H2 fun y H3=>∃a H4,x=.ref a/\DR H3 a y v H4/\D.nx σ H4
section
variable{X:Cx}{o i e value:Expr}{pos pos' tpos:Pos}{td ty tv:TE}
theorem aGg(hu:X.A.units+1<cLine)(hi:PE X i ty)(ho:PE X o td):PC X .In i o (aJP ty td):=by
 sleep 10;refine thn (hi pins s σ H _ I h) fun iv s1 ⟨y,H1,I1,ry,q1⟩=>thn (ho pins s1 σ H1 _ I1 q1) fun u s2 ⟨x,H2,I2,rx,a,ov,ex,g,q2⟩=>?_;subst ex;obtain rfl:u=Value.ref a:=rx;exact aKD hu I2 g ry fun s3 I3=>⟨.bl ov.isSome,H2,I3,rfl,q2⟩
theorem aCV(hu:X.A.units+1<cLine)(ho:PE X o td)(hi:PE X i ty)(hv:PE X value tv)(hs:swapsWith value (some (.Subscript o i pos')) pos.line X.env=pure false):
 PS X (.Assign [.Subscript o i pos'] value pos) (aEV td ty tv):=by
 sleep 19;refine wpAny_Assign_Subscript (thn (hv pins s σ H _ I h) fun r s1 ⟨v,H1,I1,rv,q1⟩=>thn (ho pins s1 σ H1 _ I1 q1) fun u s2 ⟨x,H2,I2,rx,q2⟩=>thn (hi pins s2 σ H2 _ I2 q2) fun iv s3 ⟨y,H3,I3,ry,a,H4,ex,g,q3⟩=>?_) hs;subst ex;obtain rfl:u=Value.ref a:=rx;exact VU hu I3 g ry rv fun s4 I4=>⟨σ,H4,I4,q3⟩
end
theorem DB{P:Program}{w:World}(h:Heap)(hb:sysModules<h.objs.size):dM P w H (h.push { cls:=.type "dict",data:=.dict #[] }) h.objs.size (.dK []):=
 ⟨D6 _,beq_eq_false_iff_ne.mpr (F4 (B6 hb)),[],.nil,Heap.DictOf.new h⟩
theorem MC{P:Program}{w:World}(h:Heap)(hb:sysModules<h.objs.size):dM P w H (h.push { cls:=.type "dict",data:=.dict #[] }) h.objs.size (.dT []):=
 ⟨D6 _,beq_eq_false_iff_ne.mpr (F4 (B6 hb)),[],.nil,_,#[],0,B7 _ rfl,⟨rfl,rfl,rfl⟩,rfl,rfl,J9⟩
noncomputable def YQ:TE:=fun _ H Q=>∀p,H p=none->Q (.ref p) (upd H p (.dK []))
noncomputable def aAr:TE:=fun _ H Q=>∀p,H p=none->Q (.ref p) (upd H p (.dT []))
section
variable{X:Cx}{pos:Pos}
theorem ZF:PE X (.Dict [] [] pos) YQ:=fun pins s σ H Q I h=>
 wpAny_Dict_empty ⟨.ref s.heap.objs.size,_,I.laid (a:=s.heap.objs.size) (o:=.dK []) (t':=s.toks) (fun _ _ q=>A2 _ q) (A7 _) (DB s.heap I.big),rfl,h _ (I.hok.fresh (A7 _))⟩
theorem YR:PE X (.Dict [] [] pos) aAr:=fun pins s σ H Q I h=>
 wpAny_Dict_empty ⟨.ref s.heap.objs.size,_,I.laid (a:=s.heap.objs.size) (o:=.dT []) (t':=s.toks) (fun _ _ q=>A2 _ q) (A7 _) (MC s.heap I.big),rfl,h _ (I.hok.fresh (A7 _))⟩
end
noncomputable def KC:List (TE×TE)->St->Hp->(List (V×V)->Hp->Prop)->Prop
 |[],_,H,Q=>Q [] H
 |(tk,tv)::r,σ,H,Q=>tk σ H fun x H1=>tv σ H1 fun y H2=>KC r σ H2 fun ps H3=>Q ((x,y)::ps) H3
noncomputable abbrev VV:List (V×V)->List (Value×Value)->Prop:=Paired fun p q=>RelV p.1 q.1/\RelV p.2 q.2
noncomputable def PPs(X:Cx)(pos:Pos)(keys:List (Option Expr))(values:List Expr)(trs:List (TE×TE)):Prop:=
 ∀(pins:List (Addr×Obj))(s:Shared)(σ:St)(H:Hp)(Q:List (V×V)->Hp->Prop),Inv X pins σ H s->KC trs σ H Q->
  wpAny (model X.prog X.w) X.A (evalPairs (pairTrees keys values X.env pos)) (fun vs s'=>∃ps H',Inv X pins σ H' s'/\VV ps vs/\Q ps H') X.xe s
theorem aCL{X:Cx}:PPs X pos [] [] []:=fun pins s σ H Q I h=>pairTrees_nil_walk ⟨[],H,I,.nil,h⟩
theorem aBi{X:Cx}{k v:Expr}{ks:List (Option Expr)}{vs:List Expr}{tk tv:TE}{trs:List (TE×TE)}(hk:PE X k tk)(hv:PE X v tv)(hr:PPs X pos ks vs trs):
 PPs X pos (some k::ks) (v::vs) ((tk,tv)::trs):=fun pins s σ H Q I h=>
 pairTrees_cons_walk (thn (hk pins s σ H _ I h) fun u s1 ⟨x,H1,I1,rx,q1⟩=>thn (hv pins s1 σ H1 _ I1 q1) fun w2 s2 ⟨y,H2,I2,ry,q2⟩=>
  thn (hr pins s2 σ H2 _ I2 q2) fun ws s3 ⟨ps,H3,I3,rel,q3⟩=>⟨(x,y)::ps,H3,I3,.cons ⟨rx,ry⟩ rel,q3⟩)
noncomputable def rS(kvs more:List (Key×V)):List (Key×V):=more.foldl (fun acc kv=>putK acc kv.1 kv.2) kvs
theorem KV.merge:∀{more:List (Key×V)}{rs:List (Key×Value)}{kvs:List (Key×V)}{vs:List (Key×Value)},KV more rs->KV kvs vs->KV (rS kvs more) (merged vs rs):=by
 intro more rs kvs vs r;unfold KV at r
 induction r generalizing kvs vs with
 |nil=>intro q;exact q
 |@cons p q ps qs h t ih=>
  intro r0
  have e:KV (putK kvs p.1 p.2) (stored vs q.1 q.2):=by
   have:=r0.put p.1 h.2;rw[<- h.1];exact this
  exact ih e
theorem uV:∀(more kvs:List (Key×V)),(rS kvs more).length<=kvs.length+more.length
 |[]=>fun kvs=>by show kvs.length<=kvs.length+0;omega
 |p::r=>fun kvs=>by
  have h1:=uV r (putK kvs p.1 p.2);have h2:=kK kvs p.1 p.2;show(rS (putK kvs p.1 p.2) r).length<=_;rw[C0];omega
theorem CJ{P:Program}{w:World}:∀{kvs:List (Key×V)}{ws:List (Value×Value)},VV (kvs.map fun kv=>(kV kv.1,kv.2)) ws->∃rs,Carries (eE P w) ws rs/\KV kvs rs
 |[],_=>fun r=>by rw[List.map_nil]at r;cases r;exact⟨[],True.intro,.nil⟩
 |p::kvs,_=>fun r=>by
  rw[C4]at r;cases r with
  |@cons a b as bs h t=>
   obtain⟨rs,c,q⟩:=CJ (P:=P) (w:=w) t;obtain⟨b1,b2⟩:=b;exact⟨(p.1,b2)::rs,⟨NA h.1,rfl,c⟩,.cons ⟨rfl,h.2⟩ q⟩
noncomputable def aFi(trs:List (TE×TE)):TE:=fun σ H Q=>∀p,H p=none->KC trs σ (upd H p (.dK [])) fun ps H2=>H2 p=some (.dK [])/\∃kvs:List (Key×V),ps=kvs.map (fun kv=>(kV kv.1,kv.2))/\kvs.length<=15/\Q (.ref p) (upd H2 p (.dK (rS [] kvs)))
theorem aER{X:Cx}{keys:List (Option Expr)}{values:List Expr}{trs:List (TE×TE)}(h:PPs X pos keys values trs)(hall:keys.all (·.isSome)=true)(hl:keys.length=values.length)(h0:keys≠[])
 (h15:keys.length<=15):PE X (.Dict keys values pos) (aFi trs):=by
 intro pins s σ H Q I q;have hn:=I.hok.fresh (A7 s.heap.objs.size);have I1:=I.laid (a:=s.heap.objs.size) (o:=.dK []) (h':=s.heap.push { cls:=.type "dict",data:=.dict #[] }) (t':=s.toks) (fun _ _ q=>A2 _ q) (A7 _) (DB s.heap I.big);refine wpAny_Dict_walk (knd:=eE X.prog X.w) hall hl h0 h15 (thn (h pins _ σ _ _ I1 (q _ hn)) fun ws s2 ⟨ps,H2,I2,rel,e,kvs,ep,lk,q2⟩=>?_);subst ep;obtain⟨rs,c,rk⟩:=CJ (P:=X.prog) (w:=X.w) rel;obtain⟨z,hd,vs0,r0,dd⟩:=aBw I2.hok e;cases r0;refine⟨rs,c,dd,fun h' dd' hs=>⟨.ref s.heap.objs.size,_,?_,rfl,q2⟩⟩
 have hz:(rS [] kvs).length<=sizeLine:=by
  have h1:=uV kvs [];rw[O6]at h1;rw[E1];omega
 have he:∃q,h'.get? s.heap.objs.size=some q:=let⟨q,_,_,hq,_⟩:=dd';⟨q,hq⟩;exact xK I2 (by rw[e];exact True.intro) hs he (QP hz hd (rk.merge .nil) dd')
structure M1(X:Cx)(o:Expr)(m:Str)(apos:Pos)(e:Expr)(cpos:Pos):Prop where
 base:attributeBase o m X.env (eval o X.env)=eval o X.env
 few:((backTo cpos (starEach [e] X.env)).all (fun x=>!x.1)&&(backToKw cpos (keywordEach [] X.env)).all (fun x=>x.1.isSome)
  && decide (([e]:List Expr).length+([]:List Keyword).length+(if ([]:List Keyword).isEmpty then 0 else 1)<30))=true
 line:(apos.endLine==cpos.line)=true
 trees:backTo cpos (starEach [e] X.env)=[(false,eval e X.env)]
structure M2(X:Cx)(o:Expr)(m:Str)(apos:Pos)(e f:Expr)(cpos:Pos):Prop where
 base:attributeBase o m X.env (eval o X.env)=eval o X.env
 few:((backTo cpos (starEach [e,f] X.env)).all (fun x=>!x.1)&&(backToKw cpos (keywordEach [] X.env)).all (fun x=>x.1.isSome)
  && decide (([e,f]:List Expr).length+([]:List Keyword).length+(if ([]:List Keyword).isEmpty then 0 else 1)<30))=true
 line:(apos.endLine==cpos.line)=true
 trees:backTo cpos (starEach [e,f] X.env)=[(false,eval e X.env),(false,eval f X.env)]
end L2
namespace Att
open PySem PySem.W PySem.Calls PyProof.Rows
theorem AJ{P:Params}{h:Heap}:∀(ns:List Int)(vs:List Value),WellAll P h vs (ns.map WData.int)->IntsAre vs ns:=by
 intro ns
 induction ns with
 |nil=>
  intro vs w;rw[List.map_nil]at w;cases w;exact .nil
 |cons n ns ih=>
  intro vs w;rw[C4]at w;cases w with
  |cons a b=>
   cases a;exact .cons _ _ (ih _ b)
theorem VE{l:OpenLaw}{n:Nat}(hn:l.most=some n){P:Params}{h:Heap}{args:List WData}{vals:List Value}
 (hpre:l.row.toRowW.claim.pre args=true) (hwl:WellAll P h vals args):
 ∃a vs ns,vals=[Value.ref a]/\args=[WData.list (ns.map WData.int)]/\h.get? a=some { cls:=.type "list",data:=.seq vs.toArray }/\IntsAre vs ns/\ns.length<=n:=by
 have hsh:WShape.hasAll [] args [.list .int]=true:=(pre_splitW hpre).1;have hc:l.pre.holds [] { args:=args }=true:=(pre_splitW hpre).2;obtain⟨d,r,rfl,h1,h2⟩:=hasAllW_cons hsh;obtain rfl:=hasAllW_nil h2;obtain⟨xs,rfl,h3⟩:=hasW_list h1;obtain⟨ns,rfl⟩:=items_int h3
 have hlen:ns.length<=n:=by
  unfold OpenLaw.pre at hc
  have h4:(WTm.not (.lt (.lit (.int (n:Int))) (.len (.arg 0)))).holds [] { args:=[.list (ns.map .int)] }=true:=by
   have h4:=(holds_andW hc).1;rw[hn]at h4;exact h4
  have h5:=condW_of h4 (w_not (w_lt w_lit (w_len_list (w_arg rfl))));rw[A8]at h5;refine Nat.le_of_not_lt fun q=>?_;have q':(n:Int)<((ns.length:Nat):Int):=by omega
  first
   |(rw[C7 q']at h5;exact absurd h5 (by decide))
   |(simp at h5;omega)
 cases hwl with
 |cons w1 w2=>
  cases w2;cases w1 with
  |list ho hall=>exact⟨_,_,ns,rfl,rfl,ho,AJ ns _ hall,hlen⟩
theorem WD(l:OpenLaw)(args:List WData):l.row.toRowW.claim.post args (.bool true) args=true:=
 postW_of (r:=l.row.toRowW) (X:=(true==true))
  (show WShape.has [] (.bool true) .bool=true by first|rfl|decide|simp[WShape.has,WShape.arms,WShape.armsAll])
  (show(WTm.eq .res (.lit (.bool true))).value [] { args:=args,res:=some (.bool true),after:=args }=some (.bool (true==true))from w_eq_bool (w_res rfl) w_lit) rfl
theorem attach_call{l:OpenLaw}{n:Nat}{q:Program}{loose:List Str}{XP:(Str->Option Value)->Heap->Prop}{YP:World->Heap->Prop}{d:DefRec}
 (hn:l.most=some n) (hdf:d.params.defaults=[])
 (call:∀(w:World)(s₀ s₁:Shared)(mg mb:Str->Option Value)(fa:Addr)(o:Obj)(pm cd doc:Value)(a:Addr)(vs:List Value)(ns:List Int),
  Ground q loose [] XP w s₀ mg mb s₁.heap->YP w s₁.heap->
  s₁.heap.get? fa=some o->o.data=.func (docDef d.name d.params d.body d.scope pm cd doc)->s₁.heap.CodeRec cd d.name->mg d.name=some (.ref fa)->
  s₁.heap.get? a=some { cls:=.type "list",data:=.seq vs.toArray }->IntsAre vs ns->ns.length<=n->s₁.gens=#[]->
  codeAny (model l.prog w) callerA (.call (.ref fa) ⟨[.ref a],[]⟩) (fun r s'=>r=.ok (.ret (.bool true))/\OldK s₁.heap s'.heap/\s'.os=s₁.os/\AllBare s'.gens) s₁):
 WalkO q loose XP YP l.row.toRowW d [] (fun f vs=>PySem.call f vs):=by
 intro w s₀ s₁ mg mb G Y fa o pm cd doc dV kV ho hd hcd hD hmg hg args vals as hpre hlay hrd hwl hlo;obtain rfl:dV=.none:=Dflts.none hD hdf;obtain rfl:kV=.none:=Dflts.noKw hD;obtain⟨a,vs,ns,rfl,rfl,hobj,hints,hlen⟩:=VE hn hpre hwl;refine enter_call (U2 (call w s₀ s₁ mg mb fa o pm cd doc a vs ns G Y ho (fd_plain hd) hcd hmg hobj hints hlen hg) fun r s' hq=>?_);obtain⟨rfl,h2,h3,h4⟩:=hq;exact⟨.inl ⟨.bool true,.bool true,[],rfl,fun _=>rfl,.bool true,WD l _,fun _=>⟨List.Pairwise.nil,fun _ hm=>(nomatch hm)⟩⟩,h2,h3,h4⟩
section
variable{prog:Program}{w:World}{A:Around}{E:Value->Shared->Prop}{s:Shared}{K:Frag}
end
end Att
namespace L2
open PySem PySem.Spec PyProof.Rows
theorem GJ:∀{vs:List Value}{ns:List Int},IntsAre vs ns->bK (ns.map V.int) vs
 |_,_,.nil=>.nil
 |_,_,.cons n t h=>.cons ⟨t,rfl⟩ (GJ h)
noncomputable def aFQ(H:Hp):Prop:=∀b,H b=none\/∃o xs,H b=some (.frz o (.lst xs))
theorem aAM{P:Program}{w:World}{K:Fg}{mg mb:Str->Option Value}{CX:CXT}{k:Nat}{fa a:Addr}{fd:FuncData}{x:Str}{sp:Sp}{s₁:Shared}{vs:List Value}{ns:List Int}
 (KX:K.In s₁.heap) (hns:s₁.heap.Ns mainGlobals mg) (hb:s₁.heap.Ns builtinsNs mb) (hbb:∀x:Str,x≠"__name__"->mb x=bootBuiltins x) (hlim:s₁.heap.NoLimit) (hsm:∃mm,s₁.heap.Ns sysModules mm) (hg:s₁.gens=#[])
 (ha:s₁.heap.get? a=some { cls:=.type "list",data:=.seq vs.toArray }) (hi:IntsAre vs ns) (hl:ns.length<=sizeLine) (hr:cB k callerA)
 (F:∀base:Heap,K.In base->base.Ns mainGlobals mg->jF P w K mg base CX k fa fd [x] sp) (hbind:∀(s:Shared)(u:Value),BindsTo s fd ⟨[u],[]⟩ [(x,u)])
 (hsp:∀H:Hp,aFQ H->SqL K H a (ns.map V.int)->sp [.ref a] H (fun v _=>v=.bl true) fun _ _ _=>False)
 (hCX:∀H e s',CX [] H s₁ (fun _ _ _=>False) e s'->False):
 codeAny (model P w) callerA (.call (.ref fa) ⟨[.ref a],[]⟩) (fun r s'=>r=.ok (.ret (.bool true))/\OldK s₁.heap s'.heap/\s'.os=s₁.os/\AllBare s'.gens) s₁:=by
 have rv:=GJ hi;have lenV:=hi.length
 have core:∀H:Hp,aFQ H->SqL K H a (ns.map V.int)->HOk P w H s₁.heap->(∀b,H b≠none->b=a)->(H a≠none->K.lookup a=none)->
  codeAny (model P w) callerA (.call (.ref fa) ⟨[.ref a],[]⟩) (fun r s'=>r=.ok (.ret (.bool true))/\OldK s₁.heap s'.heap/\s'.os=s₁.os/\AllBare s'.gens) s₁:=by
  intro H hO hS hok hA hK;have base_of:∀{b:Addr}{o:Obj},s₁.heap.get? b=some o->H b=none->(IB s₁.heap H).get? b=some o:=fun e n=>aCp e n
  have noA:∀{b:Addr}{o:Obj}{es:Array DictEntry}{ep:Nat},s₁.heap.get? b=some o->o.data=.dict es ep->H b=none:=fun{b o es ep} e d=>by
   cases q:H b with
   |none=>rfl
   |some u=>
    have e':b=a:=hA b (by rw[q];simp);subst e';rw[ha]at e;cases e;have d':Data.seq vs.toArray _=Data.dict es ep:=d;cases d'
  have nsK:∀{b:Addr}{m:Str->Option Value},s₁.heap.Ns b m->(IB s₁.heap H).Ns b m:=fun{b m} ⟨o,es,ep,e,d,r⟩=>⟨o,es,ep,base_of e (noA e d),d,r⟩
  have hKb:K.In (IB s₁.heap H):=fun b o e=>base_of (KX b o e) (by
   cases q:H b with
   |none=>rfl
   |some u=>
    have e':b=a:=hA b (by rw[q];simp);subst e';rw[hK (by rw[q];simp)]at e;cases e)
  have hM:Mod K mg (IB s₁.heap H):=⟨hKb,nsK hns,⟨mb,nsK hb,hbb⟩,(let⟨mc,h1,h2⟩:=hlim;⟨mc,nsK h1,h2⟩),(let⟨mm,hmm⟩:=hsm;let⟨o,es,ep,h1,h2,_⟩:=nsK hmm;⟨o,es,ep,h1,h2⟩)⟩;have e0:QJ P w K mg (IB s₁.heap H) callerA [] s₁ H:=⟨rfl,hM,fun b o e=>aCO e,Nat.le_of_eq (VW _ _),trivial,fun b hb=>absurd (show b∈([]:List Addr)from hb) (by simp),hok,.of_eq hg⟩;refine U2 ((F _ hKb (nsK hns)).run callerA [] s₁ H ⟨[.ref a],[]⟩ [.ref a] [.ref a] _ _ hr e0 (hbind s₁ (.ref a)) (.cons rfl .nil) (hsp H hO hS)) fun r s' h=>?_;cases r with
  |error e=>exact(hCX H e s' h).elim
  |ok fl=>
   cases fl with
   |next=>exact False.elim h
   |brk=>exact False.elim h
   |cont=>exact False.elim h
   |ret u=>
    obtain⟨v,H',os,bare,un,hok',r',q⟩:=h;have q':v=.bl true:=q;subst q';obtain rfl:u=Value.bool true:=r';refine⟨rfl,OldK.of_keep fun b o e=>?_,os,bare⟩;cases q:H b with
    |none=>exact un.keep b o e q (by intro z;exact absurd (show b∈([]:List Addr)from z) (by simp)) (by simp)
    |some u=>
     rcases hO b with z|⟨ob,xs,z⟩
     .rw[q]at z;cases z
     .have z2:=un.frzs b ob _ z;obtain⟨e1,_⟩:=hok b _ z;obtain⟨e2,_⟩:=hok' b _ z2;rw[e]at e1;cases e1;exact e2
 cases hk:K.lookup a with
 |some o=>
  have e:=KX a o hk;rw[ha]at e;cases e;refine core (fun _=>none) (fun _=>.inl rfl) (.inr ⟨_,vs.toArray,_,hk,rfl,rfl,rfl,by rw[D0,lenV];exact hl,by simpa using rv⟩) (fun b u z=>by have z':(none:Option HO)=some u:=z;cases z') (fun b z=>absurd rfl z) fun z=>absurd rfl z
 |none=>
  refine core (fun b=>if b=a then some (.frz { cls:=.type "list",data:=.seq vs.toArray } (.lst (ns.map V.int)))else none) (fun b=>?_) (.inl (.inr ⟨{ cls:=.type "list",data:=.seq vs.toArray },A3 rfl⟩)) (fun b u z=>?_) (fun b z=>?_) fun _=>hk
  .by_cases hb:b=a
   .exact .inr ⟨_,_,A3 hb⟩
   .exact .inl (A5 hb)
  .by_cases hb:b=a
   .have z':=(A3 hb).symm.trans z;cases z';subst hb;exact⟨ha,by rw[A8];exact hl,vs,_,rv,ha⟩
   .have z':=(A5 hb).symm.trans z;cases z'
  .by_cases hb:b=a
   .exact hb
   .exact absurd (A5 hb) z
noncomputable abbrev KOf{K:Fg}{h:Heap}(_:K.In h):Fg:=K
theorem walk_of{l:PySem.W.OpenLaw}{n k:Nat}{q:Program}(hq:PyProof.Rows.importsNone q=true){loose:List Str}{XP:(Str->Option Value)->Heap->Prop}{YP:World->Heap->Prop}{d:DefRec}{K:Params->Fg}{CX:World->CXT}{sp:World->Sp}{x:Str}
 (hn:l.most=some n) (hn2:n<=sizeLine) (hdf:d.params.defaults=[]) (hr:cB k callerA)
 (hY:∀(w:World)(h:Heap),YP w h->(K w.params).In h)
 (F:∀(w:World)(mg:Str->Option Value)(fa:Addr)(h:Heap),(K w.params).In h->h.Ns mainGlobals mg->mg d.name=some (.ref fa)->
  ∃fd:FuncData,(∀(s:Shared)(u:Value),BindsTo s fd ⟨[u],[]⟩ [(x,u)]) /\
   ∀base:Heap,(K w.params).In base->base.Ns mainGlobals mg->jF l.prog w (K w.params) mg base (CX w) k fa fd [x] (sp w))
 (hsp:∀(w:World)(H:Hp)(a:Addr)(ns:List Int),ns.length<=n->aFQ H->SqL (K w.params) H a (ns.map V.int)->sp w [.ref a] H (fun v _=>v=.bl true) fun _ _ _=>False)
 (hCX:∀(w:World)(H:Hp)(s:Shared)(e:Value)(s':Shared),CX w [] H s (fun _ _ _=>False) e s'->False):
 PySem.W.WalkO q loose XP YP l.row.toRowW d [] (fun f vs=>PySem.call f vs):=by
 refine Att.attach_call hn hdf fun w s₀ s₁ mg mb fa o pm cd doc a vs ns G Y ho hd hcd hmg hobj hints hlen hg=>?_;have KX:=hY w _ Y;obtain⟨fd,hb,hF⟩:=F w mg fa _ KX G.T.g hmg;exact aAM KX G.T.g G.T.b G.T.builtins G.T.nolimit (let⟨mm,hmm,_⟩:=(G.T.seer hq).mods;⟨mm,hmm⟩) hg hobj hints (C8 hlen hn2) hr hF hb (fun H hO hS=>hsp w H a ns hlen hO hS) fun H e s'=>hCX w H s₁ e s'
end L2
namespace L2
variable{H H':Hp}{W:Wd}{M M':Sto}{γ:Ga}{K:Fg}
open PySem PySem.Spec PyProof.Rows
noncomputable def inClass(s:Stmt)(j:Nat):Stmt:=match s with
 |.ClassDef _ _ _ body _ _ _ _ _ _ _=>body.getD j (.Pass ⟨0,0,0,0⟩)
 |_=>.Pass ⟨0,0,0,0⟩
noncomputable def dW(s:Stmt):Arguments:=match s with
 |.FunctionDef _ a _ _ _ _ _ _ _ _=>a
 |_=>{ posonlyargs:=[],args:=[],vararg:=none,kwonlyargs:=[],kw_defaults:=[],kwarg:=none,defaults:=[] }
noncomputable def bQ(s:Stmt):List Stmt:=match s with
 |.FunctionDef _ _ b _ _ _ _ _ _ _=>b
 |_=>[]
noncomputable def aH(s:Stmt):Scope:=match s with
 |.FunctionDef _ _ _ _ _ _ sc _ _ _=>sc
 |_=>{ kind:=.function,names:=[],isGenerator:=false,isCoroutine:=false }
noncomputable abbrev CX0:CXT:=fun _ _ _ _ _ _=>False
noncomputable abbrev E0:XK:=fun _ _ _=>False
theorem aJB{X:Cx}:RH CX0 X E0:=fun _ _ _ _ _ _ _ h=>h.elim
structure Fun(K:Fg)(x qual:Str)(st:Stmt)(f:Addr)(fd:FuncData):Prop where
 ex:∃(oc:Value)(od:Option Addr)(kV doc pm:Value)(an:Option Addr)(cdv ct:Value)(osl:Array (Option Value)),
  fd=PySem.W.fnOf x qual (dW st) (bQ st) (aH st) .none kV doc pm an cdv ct/\K.lookup f=some ⟨oc,od,.func fd,osl⟩/\PySem.W.codeIn K cdv qual=true
 kp:PySem.W.keepIn K (.ref f)=true
section
variable{P:Program}{w:World}{K:Fg}{mg:Str->Option Value}{base:Heap}
theorem Fun.ok{x qual:Str}{st:Stmt}{f:Addr}{fd:FuncData}{N ps:List Str}{k:Nat}{sp:Sp}{q:Bool}(F:Fun K x qual st f fd)(S:aT N ps (aH st))(len:∀vs H Q E,sp vs H Q E->vs.length=ps.length)
 (hbody:∀(cdv:Value)(A:Around)(outer:List Env)(s:Shared)(H:Hp)(vs:List V)(Q:VK)(E:XK),cB k (A.deeper (envOfC qual (aH st) s.heap.objs.size f cdv)) q->sp vs H Q E->
  ∃t,PSs (nR CX0 P w K mg base N qual (aH st) f cdv A outer s H E q).nox (bQ st) t/\t { nx:=fun _ H'=>Q .non H',rt:=Q } (start N vs) H):jF P w K mg base CX0 (k+1) f fd ps sp q:=by
 obtain⟨oc,od,kV,doc,pm,an,cdv,ct,osl,rfl,lk,hcd⟩:=F.ex;refine aEX lk hcd S len fun A outer s H vs Q E hr hsp=>?_;obtain⟨t,h,z⟩:=hbody cdv A outer s H vs Q E hr hsp;exact⟨t,h.nox,z⟩
theorem Fun.binds{x qual:Str}{st:Stmt}{f:Addr}{fd:FuncData}{ps:List Str}(F:Fun K x qual st f fd)
 (h:∀(kV doc pm:Value)(an:Option Addr)(cdv ct:Value)(us:List Value),us.length=ps.length->bindArgs (PySem.W.fnOf x qual (dW st) (bQ st) (aH st) .none kV doc pm an cdv ct) ⟨us,[]⟩=pure (ps.zip us)):Binds K fd ps []:=by
 obtain⟨oc,od,kV,doc,pm,an,cdv,ct,osl,rfl,lk,hcd⟩:=F.ex;exact .all (h kV doc pm an cdv ct)
theorem aAR{x qual:Str}{st:Stmt}{f:Addr}{oc:Value}{od an:Option Addr}{osl:Array (Option Value)}{kV doc pm cdv ct:Value}(l:K.lookup f=some ⟨oc,od,.func (PySem.W.fnOf x qual (dW st) (bQ st) (aH st) .none kV doc pm an cdv ct),osl⟩)
 (c:PySem.W.codeIn K cdv qual=true) (k:PySem.W.keepIn K (.ref f)=true):Fun K x qual st f (PySem.W.fnOf x qual (dW st) (bQ st) (aH st) .none kV doc pm an cdv ct):=⟨⟨oc,od,kV,doc,pm,an,cdv,ct,osl,rfl,l,c⟩,k⟩
end
noncomputable def jO(H H':Hp):Prop:=∀b o,H b=some o->H' b=some o
theorem jO.refl(H:Hp):jO H H:=fun _ _ h=>h
theorem jO.trans{H1 H2:Hp}(a:jO H H1)(b:jO H1 H2):jO H H2:=fun c o h=>b c o (a c o h)
theorem jO.free(e:jO H H'){l:Addr}(h:H' l=Option.none):H l=Option.none:=by
 cases q:H l with
 |none=>rfl
 |some o=>
  rw[e l o q]at h;cases h
theorem jO.seq{a:Addr}{xs:List V}(e:jO H H')(h:SqL K H a xs):SqL K H' a xs:=by
 rcases h with(h|⟨o,h⟩)|h
 .exact .inl (.inl (e _ _ h))
 .exact .inl (.inr ⟨o,e _ _ h⟩)
 .exact .inr h
noncomputable def fU(env:Env):List (Str×NameKind)->List (Str×Addr)->List (Str×Addr)
 |[],cs=>cs
 |y::r,cs=>fU env r (if (y.2==NameKind.free)=true then(y.1,(env.cells.lookup y.1).getD 0)::cs else cs)
theorem vS{env:Env}:∀(l:List (Str×NameKind))(cs:List (Str×Addr)),(∀y∈l,y.2=.free->∃c,env.cells.lookup y.1=some c)->
 (forIn l cs fun(x:Str×NameKind)(r:List (Str×Addr))=>if (x.2==NameKind.free)=true then(do
  let a <- cellOf env x.1
  pure (ForInStep.yield ((x.1,a)::r)))else pure (ForInStep.yield r))=(pure (fU env l cs):Sem (List (Str×Addr)))
 |[]=>fun cs _=>rfl
 |y::l=>fun cs h=>by
  rw[List.forIn_cons];by_cases hk:(y.2==NameKind.free)=true
  .obtain⟨c,hc⟩:=h y B3 (by simpa using hk);have e1:cellOf env y.1=pure c:=by unfold cellOf;rw[hc]
   rw[A3 hk,e1];show(forIn l ((y.1,c)::cs) _:Sem _)=_;rw[vS l _ fun z hz=>h z (B1 _ hz)]
   conv=>rhs;unfold fU
   rw[A3 hk,hc];rfl
  .rw[A5 hk];show(forIn l cs _:Sem _)=_;rw[vS l _ fun z hz=>h z (B1 _ hz)]
   conv=>rhs;unfold fU
   rw[A5 hk]
theorem DH{scope:Scope}{env:Env}(h:∀y∈scope.names,y.2=.free->∃c,env.cells.lookup y.1=some c):closureFor scope env=pure (fU env scope.names []):=by
 have e:=vS (env:=env) scope.names [] h;unfold closureFor
 show((forIn scope.names ([]:List (Str×Addr)) fun(x:Str×NameKind)(r:List (Str×Addr))=>if (x.2==NameKind.free)=true then(do
  let a <- cellOf env x.1
  pure (ForInStep.yield ((x.1,a)::r)))else pure (ForInStep.yield r)) >>= fun z=>pure z:Sem (List (Str×Addr)))=_
 rw[e];rfl
theorem HI{env:Env}:∀(l:List (Str×NameKind))(cs:List (Str×Addr)),(∀y∈l,y.2=.free->∃c,env.cells.lookup y.1=some c)->(∀x c,cs.lookup x=some c->env.cells.lookup x=some c)->
 ∀x c,(fU env l cs).lookup x=some c->env.cells.lookup x=some c
 |[]=>fun cs _ h x c e=>h x c e
 |y::l=>fun cs hf h x c e=>by
  unfold fU at e;refine HI l _ (fun z hz=>hf z (B1 _ hz)) ?_ x c e;intro z d ez;by_cases hk:(y.2==NameKind.free)=true
  .rw[A3 hk]at ez;obtain⟨c',hc'⟩:=hf y B3 (by simpa using hk);rw[hc']at ez;rw[D1]at ez;by_cases hz:(z==y.1)=true
   .rw[hz]at ez;have hz':z=y.1:=by simpa using hz
    rw[hz',hc'];exact ez
   .have hz':(z==y.1)=false:=by simpa using hz
    rw[hz']at ez;exact h z d ez
  .rw[A5 hk]at ez;exact h z d ez
theorem yQ{env:Env}:∀(l:List (Str×NameKind))(cs:List (Str×Addr))(x:Str),((x,NameKind.free)∈l\/∃c,cs.lookup x=some c)->∃c,(fU env l cs).lookup x=some c
 |[]=>fun cs x h=>by
  rcases h with h|h
  .exact absurd h (by simp)
  .exact h
 |y::l=>fun cs x h=>by
  unfold fU;refine yQ l _ x ?_;rcases h with h|⟨c,hc⟩
  .rcases List.mem_cons.mp h with e|e
   .subst e;refine .inr ?_;rw[A3 (by rfl)];exact⟨(env.cells.lookup x).getD 0,by rw[D1];simp⟩
   .exact .inl e
  .refine .inr ?_;by_cases hk:(y.2==NameKind.free)=true
   .rw[A3 hk,D1];by_cases hz:(x==y.1)=true
    .rw[hz];exact⟨_,rfl⟩
    .have hz':(x==y.1)=false:=by simpa using hz
     rw[hz'];exact⟨c,hc⟩
   .rw[A5 hk];exact⟨c,hc⟩
theorem vF{env:Env}:∀{names:List (Str×NameKind)}{x:Str}{k:NameKind},
 (names.map fun(y:Str×NameKind)=>if (y.2==NameKind.free&&env.scope.kind==.function&&env.kindOf y.1==some .cell)=true then(y.1,NameKind.cell)else(y.1,y.2)).lookup x=some k->
 (names.lookup x=some k)\/(names.lookup x=some .free/\k=.cell)
 |[],x,k=>fun h=>by simp at h
 |y::r,x,k=>fun h=>by
  rw[C4]at h;by_cases hx:(x==y.1)=true
  .sleep 18
   .rw[A3 hc,D1,hx]at h;rw[D1,hx];have:y.2=.free:=by simp at hc;exact hc.1.1
    refine .inr ⟨by rw[this],?_⟩;cases h;rfl
   .rw[A5 hc,D1,hx]at h;rw[D1,hx];exact .inl h
  .have hx':(x==y.1)=false:=by simpa using hx
   have h':(r.map fun(y:Str×NameKind)=>if (y.2==NameKind.free&&env.scope.kind==.function&&env.kindOf y.1==some .cell)=true then(y.1,NameKind.cell)else(y.1,y.2)).lookup x=some k:=by
    sleep 18
    .rw[A3 hc,D1,hx']at h;exact h
    .rw[A5 hc,D1,hx']at h;exact h
   rw[D1,hx'];exact vF h'
theorem BO{env:Env}:∀{names:List (Str×NameKind)}{x:Str},names.lookup x=some .free->
 (names.map fun(y:Str×NameKind)=>if (y.2==NameKind.free&&env.scope.kind==.function&&env.kindOf y.1==some .cell)=true then(y.1,NameKind.cell)else(y.1,y.2)).lookup x=some .cell \/
 (names.map fun(y:Str×NameKind)=>if (y.2==NameKind.free&&env.scope.kind==.function&&env.kindOf y.1==some .cell)=true then(y.1,NameKind.cell)else(y.1,y.2)).lookup x=some .free
 |[],x=>fun h=>by simp at h
 |y::r,x=>fun h=>by
  rw[C4];by_cases hx:(x==y.1)=true
  .rw[D1,hx]at h;have hy:y.2=.free:=D2 h;sleep 18
   .rw[A3 hc,D1,hx];exact .inl rfl
   .rw[A5 hc,D1,hx];exact .inr (by rw[hy])
  .have hx':(x==y.1)=false:=by simpa using hx
   rw[D1,hx']at h;have ih:=BO (env:=env) h;sleep 18
   .rw[A3 hc,D1,hx'];exact ih
   .rw[A5 hc,D1,hx'];exact ih
noncomputable def NT(X:Cx)(ifs:List Expr)(t:TT):Prop:=
 ∀(pins:List (Addr×Obj))(s:Shared)(σ:St)(H:Hp)(Q:Bool->Hp->Prop),Inv X pins σ H s->t σ H Q->
  wpAny (model X.prog X.w) X.A (forIn ifs true fun c r=>if r=true then(do
   let ok <- isTrue c X.env (eval c X.env)
   pure (ForInStep.yield ok))else pure (ForInStep.yield r)) (TP X pins σ Q) X.xe s
noncomputable def aJt:TT:=fun _ H Q=>Q true H
theorem aAY{X:Cx}:NT X [] aJt:=fun _ _ _ H _ I h=>wpAny_tests_nil ⟨H,I,h⟩
theorem aBG{X:Cx}{c:Expr}{t:TT}(h:PT X c t):NT X [c] t:=fun pins s σ H Q I hq=>wpAny_tests_one (h pins s σ H Q I hq)
section
variable{prog:Program}{w:World}{A:Around}{R:Result->Shared->Prop}{s:Shared}
theorem aDQ{elt target iter:Expr}{ifs:List Expr}{scope:Scope}{pos:Pos}{it acc:Value}{env:Env}(I:Nat->Shared->Prop)
 (turn:∀n s,I n s->wpAny (model prog w) A (pyNext it) (fun r s1=>(r=none/\R (.ok .next) s1)\/∃v,r=some v /\
  wpAny (model prog w) A (letOwnedTupleGo target it v) (fun _ s2=>wpAny (model prog w) A (assign target env v) (fun _ s3=>
   wpAny (model prog w) A (forIn ifs true fun c r=>if r=true then(do
    let ok <- isTrue c env (eval c env)
    pure (ForInStep.yield ok))else pure (ForInStep.yield r)) (fun ok s4=>
     (ok=true/\wpAny (model prog w) A (eval elt env) (fun x s5=>wpAny (model prog w) A (call (.builtin "list.append") [acc,x]) (fun _ s6=>∃m,m<n/\I m s6) (fun _ _=>False) s5) (fun _ _=>False) s4) \/
     (ok=false/\∃m,m<n/\I m s4)) (fun _ _=>False) s3) (fun _ _=>False) s2) (fun _ _=>False) s1) (fun _ _=>False) s)
 (n:Nat) (h:I n s):codeAny (model prog w) A (.compLoop (.ListComp elt [⟨target,iter,ifs,0⟩] scope pos) 0 it acc env) R s:=by
 refine codeAny_loop rfl I (fun n s hI=>?_) n h
 show wpAny _ A ((compTurn (.ListComp elt [⟨target,iter,ifs,0⟩] scope pos) 0 it acc env).onRaise fun x=>do
  noteFrame x env
  theTreesLotGoes x) _ _ s
 refine wpAny_noted ?_;rw[compTurn_list];refine A0 (S4 (A0 (D8 (turn n s hI) (fun r s1 h1=>?_) fun _ _ f=>f.elim)));rcases h1 with⟨rfl,h1⟩|⟨v,rfl,h1⟩
 .exact A6 h1
 .refine A0 (D8 h1 (fun _ s2 h2=>?_) fun _ _ f=>f.elim);refine A0 (D8 h2 (fun _ s3 h3=>?_) fun _ _ f=>f.elim);refine A0 (D8 h3 (fun ok s4 h4=>?_) fun _ _ f=>f.elim);rcases h4 with⟨rfl,h4⟩|⟨rfl,h4⟩
  .refine A0 (A0 (D8 h4 (fun x s5 h5=>?_) fun _ _ f=>f.elim));exact A0 (D8 h5 (fun _ s6 h6=>A6 (A6 ⟨rfl,h6⟩)) fun _ _ f=>f.elim)
  .exact A6 ⟨rfl,h4⟩
end
noncomputable def gE(X:Cx)(N':List Str)(scope:Scope)(C:Addr)(s2:Shared)(H2:Hp)(fp:List Addr)(pn:List (Addr×Obj)):Cx:=
 { X with N:=N',s₀:=s2,H₀:=H2,env:=compEnvC scope (fU X.env scope.names []) C X.env,outer:=X.stack,stack:=X.stack,ex:=fp,fn:=fun _=>false,pn:=X.pn++pn,xe:=fun _ _=>False }
noncomputable def AG(cap:List (Option Nat))(σ:St):St:=cap.map fun o=>o.bind fun j=>(σ[j]?).join
structure rC(X:Cx)(N':List Str)(cap:List (Option Nat))(scope:Scope):Prop where
 nocell:∀y∈scope.names,y.2≠.cell
 kind:scope.kind=.function
 names:∀y∈scope.names,y.2=.local->scope.names.lookup y.1=some .local
 frees:∀y∈scope.names,y.2=.free->X.env.kindOf y.1=some .cell\/X.env.kindOf y.1=some .free
 len:cap.length=N'.length
 cap:∀(i j:Nat),cap[i]?=some (some j)->∃x,N'[i]?=some x/\X.N[j]?=some x/\scope.names.lookup x=some .free
section
variable{X:Cx}{N':List Str}{cap:List (Option Nat)}{scope:Scope}{pins:List (Addr×Obj)}{σ:St}{H:Hp}{s:Shared}
theorem rC.cells(S:rC X N' cap scope)(ok:X.Ok):∀y∈scope.names,y.2=.free->∃c,X.env.cells.lookup y.1=some c:=fun y hy hk=>ok.has y.1 (S.frees y hy hk)
theorem rC.sub(S:rC X N' cap scope)(ok:X.Ok):∀x c,(fU X.env scope.names []).lookup x=some c->X.env.cells.lookup x=some c:=
 HI scope.names [] (S.cells ok) fun x c e=>by simp at e
theorem rC.kinds(S:rC X N' cap scope){C:Addr}{cl:List (Str×Addr)}{x:Str}(h:(compEnvC scope cl C X.env).kindOf x=some .cell\/(compEnvC scope cl C X.env).kindOf x=some .free):scope.names.lookup x=some .free:=by
 rcases h with h|h
 .rcases vF (names:=scope.names) h with q|⟨q,_⟩
  .exact absurd rfl (S.nocell _ (E6 q))
  .exact q
 .rcases vF (names:=scope.names) h with q|⟨q,_⟩
  .exact q
  .exact q
theorem Inv.stkAll(I:Inv X pins σ H s){b:Addr}(h1:b≠X.env.locals)(h2:b∉X.fs):b∉frs X.stack:=fun hb=>(List.mem_cons.mp (I.stkSub b hb)).elim h1 h2
theorem NO(S:rC X N' cap scope)(I:Inv X pins σ H s){fp:List Addr}{h4:Heap}{C:Addr}{tk:Nat}(hf:∀b∈fp,uH X pins H b)(hlt:∀b∈fp,b<s.heap.objs.size)
 (hC:s.heap.objs.size<=C) (hn:h4.Ns C fun _=>none) (hk:∀b o,s.heap.get? b=some o->h4.get? b=some o):
 Inv (gE X N' scope C s H fp pins) [] (AG cap σ) H { s with heap:=h4,toks:=tk }:=by
 have cellLt:∀x c,X.env.cells.lookup x=some c->c<s.heap.objs.size:=fun x c e=>by
  obtain⟨v,q⟩:=I.cell x c e;exact q.lt
 have fresh:H C=none:=I.hok.fresh hC
 have ok:(gE X N' scope C s H fp pins).Ok:=by
  refine⟨I.ok.mod,S.kind,I.ok.glob,I.ok.blt,hC,fun x y c h1 h2=>?_,fun x hx=>?_,fun x c hx _=>?_,I.ok.hd,I.ok.frames,.inl rfl,fun b hb=>⟨?_,fun x c e=>?_⟩,I.bs,C8 I.ok.bsz I.sz,fun b o e hb=>?_,fun b hb=>?_,I.stack,I.stkFree⟩
  .exact I.ok.inj x y c (S.sub I.ok x c h1) (S.sub I.ok y c h2)
  .exact yQ scope.names [] x (.inl (E6 (S.kinds hx)))
  .exact absurd hx (by show ¬(false=true);decide)
  .exact B6 (B8 (hlt b hb) hC)
  .exact(hf b hb).2.2.2.2.1 x c (S.sub I.ok x c e)
  .rcases (hf b hb).2.2.2.1 with z|z
   .exact I.ok.noex b o e z
   .exact absurd (B8 (B0 (I.ok.bs b o e).1) z) (F6 _)
  .exact I.stkAll (hf b hb).2.1 (hf b hb).2.2.1
 refine⟨ok,rfl,I.bare,Un.kept hk,⟨_,hn,fun i x v h1 h2 h3=>?_⟩,fun x c e=>?_,fresh,fun x c e=>I.freeC x c (S.sub I.ok x c e),fun p hp=>?_,I.hok.kept hk,?_⟩
 .-- a name that is caught
  have h2':(cap[i]?).map (fun o=>o.bind fun j=>(σ[j]?).join)=some (some v):=by
   have:(AG cap σ)[i]?=some (some v):=h2;unfold AG at this;rw[D5]at this;exact this
  cases e:cap[i]? with
  |none=>rw[e]at h2';simp at h2'
  |some o=>
   cases o with
   |none=>rw[e]at h2';simp at h2'
   |some j=>
    rw[e]at h2';obtain⟨x',a1,a2,a3⟩:=S.cap i j e
    have ex:x'=x:=by
     have:N'[i]?=some x:=h1;rw[a1]at this;exact D2 this
    subst ex
    have sv:σ[j]?=some (some v):=by
     have q:(σ[j]?).join=some v:=D2 h2';cases f:σ[j]? with
     |none=>rw[f]at q;simp at q
     |some o=>rw[f]at q;cases o with
      |none=>simp at q
      |some v'=>simp at q;rw[q]
    have hv:X.env.kindOf x'=some .cell\/X.env.kindOf x'=some .free:=S.frees _ (E6 a3) rfl;obtain⟨m,hm,hl⟩:=I.loc;obtain⟨u,r,l⟩:=hl j x' v a2 sv (hv.elim (fun z=>.inr (.inl z)) fun z=>.inr (.inr z));refine⟨u,r,.inr ⟨?_,?_⟩⟩
    .exact BO (env:=X.env) (names:=scope.names) a3
    .rcases l with⟨hk',_⟩|⟨_,c,hc,o,ho,hd⟩
     .rcases hv with z|z<;>rw[z]at hk'<;>cases hk'
     .obtain⟨c',hc'⟩:=yQ (env:=X.env) scope.names [] x' (.inl (E6 a3));have:=S.sub I.ok x' c' hc';rw[hc]at this;cases this;exact⟨c,hc',o,hk c o ho,hd⟩
 .obtain⟨v,o,ho,hd⟩:=I.cell x c (S.sub I.ok x c e);exact⟨v,o,hk c o ho,hd⟩
 .have hp':p∈X.pn++pins:=by
   rcases List.mem_append.mp hp with z|z
   .exact z
   .exact absurd z (by simp)
  obtain⟨e,n,ne,nf,d⟩:=I.pin p hp';exact⟨hk _ _ e,n,B6 (B8 (B0 e) hC),I.stkAll ne nf,d⟩
 .show(AG cap σ).length=N'.length;unfold AG;rw[A8];exact S.len
end
noncomputable def tLc(cap:List (Option Nat))(wi:TI)(g:TG)(tc:TT)(te:TE):TE:=fun σ H Q=>wi σ H fun J H1=>∃W:Nat->Nat->List V->St->Hp->Prop,(∃m,W 0 m [] (AG cap σ) H1)/\∀i m acc σ' H',W i m acc σ' H'->
 (J.stop i H'/\∀p,H' p=none->Q (.ref p) (upd H' p (.lst acc))) \/
 (J.go i H'/\acc.length<sizeLine/\∃N:List V->St->Hp->Prop,(∀acc' σ2 H2,N acc' σ2 H2->∃m',m'<m/\W (i+1) m' acc' σ2 H2)/\∀x H2,J.yld i H' x H2->g x σ' H2 fun σ2 H3=>tc σ2 H3 fun b H4=>(b=true/\te σ2 H4 fun v H5=>N (acc++[v]) σ2 H5)\/(b=false/\N acc σ2 H4))
section
variable{X:Cx}{N':List Str}{cap:List (Option Nat)}{scope:Scope}
theorem XQ{elt tg iter:Expr}{ifs:List Expr}{pos:Pos}{wi:TI}{g:TG}{tc:TT}{te:TE}(hc:X.calm=true)(S:rC X N' cap scope)(hi:PI X tg iter wi)
 (hg:∀C s H fp pn,PG (gE X N' scope C s H fp pn) tg g) (hif:∀C s H fp pn,NT (gE X N' scope C s H fp pn) ifs tc) (he:∀C s H fp pn,PE (gE X N' scope C s H fp pn) elt te)
 (hs:∀x,foldedSetIterable iter X.env x=pure x) {pins:List (Addr×Obj)} {s:Shared} {σ:St} {H:Hp} {Q:VK} (I:Inv X pins σ H s) (h:tLc cap wi g tc te σ H Q)
 {use:Option (Value->Sem Unit)} {QQ:Value->Shared->Prop}
 (post:∀(D C:Addr)(H':Hp)(acc:List V)(s':Shared),D≠C->(∃m,s'.heap.Ns C m)->(∀h',Heap.SameBut C s'.heap h'->Inv X pins σ (upd H' D (.lst acc)) { s' with heap:=h' })->uH X pins (upd H' D (.lst acc)) C->Q (.ref D) (upd H' D (.lst acc))->compPost (model X.prog X.w) X.A X.xe use QQ (.ref D) C (.ok .next) s'):
 wpAny (model X.prog X.w) X.A (comprehension (.ListComp elt [⟨tg,iter,ifs,0⟩] scope pos) scope X.env (firstIterPos [⟨tg,iter,ifs,0⟩] pos) (newList []) false (firstIter [⟨tg,iter,ifs,0⟩] X.env) use) QQ X.xe s:=by
 refine wpAny_comprehension_free (e:=.ListComp elt [⟨tg,iter,ifs,0⟩] scope pos) (g:=⟨tg,iter,ifs,0⟩) (gs:=[]) rfl hs (DH (S.cells I.ok)) S.kind S.names ?_;refine thn (hi pins s σ H _ I h) fun v s1 h1=>thn h1 fun itv s2 h2=>?_;obtain⟨it,fp,tn,J,H2,e,I2,T,st2,f2,W,⟨m0,w0⟩,turn⟩:=h2;subst e
 have fplt:∀b∈fp,b<s2.heap.objs.size:=fun b hb=>by
  obtain⟨o,e,_⟩:=T.obj _ _ st2 b hb;exact B0 e
 refine D7 (wpAny_newFunctionEnv S.nocell (fun y hy=>by simp at hy) (fun h1' hns hsb=>?_) S.kind);dsimp only at hns hsb ⊢;generalize hP:s2.heap.push { cls:=.type "list",dict:=none,data:=.seq ([]:List Value).toArray }=P2 at hns hsb ⊢;have hsz:P2.objs.size=s2.heap.objs.size+1:=by rw[<- hP,O4]
 have hDC:s2.heap.objs.size≠P2.objs.size:=by rw[hsz];exact B6 (F5 _)
 have hC:s2.heap.objs.size<=P2.objs.size:=by rw[hsz];exact Nat.le_succ _
 have keepP:∀b o,P2.get? b=some o->b≠P2.objs.size->h1'.get? b=some o:=fun b o e hb=>hsb.extBut b o hb (A2 _ e);have old:∀b o,s2.heap.get? b=some o->h1'.get? b=some o:=fun b o e=>keepP b o (by rw[<- hP];exact A2 _ e) (B6 (B8 (B0 e) hC));have hD0:h1'.get? s2.heap.objs.size=some { cls:=.type "list",data:=.seq #[] 0 }:=keepP _ _ (by rw[<- hP];exact B7 _ rfl) hDC
 have I4:Inv (gE X N' scope P2.objs.size s2 H2 fp pins) [] (AG cap σ) H2 { s2 with heap:=h1',toks:=s2.toks+([]:List (Str×Value)).length }:=
  NO S I2 f2 fplt hC (by simpa using hns) old
 have loop:∀s4:Shared,s4={ s2 with heap:=h1',toks:=s2.toks+([]:List (Str×Value)).length }->
  codeAny (model X.prog X.w) X.A (.compLoop (.ListComp elt [⟨tg,iter,ifs,0⟩] scope pos) 0 (.ref it) (.ref s2.heap.objs.size) (compEnvC scope (fU X.env scope.names []) P2.objs.size X.env)) (compPost (model X.prog X.w) X.A X.xe use QQ (.ref s2.heap.objs.size) P2.objs.size) s4:=by
  rintro s4 rfl
  have hfrD:s2.heap.objs.size∉frs X.stack:=fun hb=>by
   obtain⟨_,o,ho,_⟩:=I2.stack.mem hb;exact absurd (B0 ho) (F6 _)
  have cne:∀x c,(fU X.env scope.names []).lookup x=some c->c<s2.heap.objs.size:=fun x c e=>by
   obtain⟨v,q⟩:=I2.cell x c (S.sub I2.ok x c e);exact q.lt
  have stat:∀{Hx:Hp}{ob:Obj},(∀b∈fp,Hx b=none)->∀b∈fp,uH (gE X N' scope P2.objs.size s2 H2 fp pins) [(s2.heap.objs.size,ob)] Hx b:=fun{Hx ob} hn b hb=>by
   refine⟨hn b hb,B6 (B8 (fplt b hb) hC),I2.stkAll (f2 b hb).2.1 (f2 b hb).2.2.1,.inl hb,fun x c e=>(f2 b hb).2.2.2.2.1 x c (S.sub I2.ok x c e),fun p hp=>?_⟩;rcases List.mem_append.mp hp with z|z
   .exact(f2 b hb).2.2.2.2.2 p z
   .rw[List.mem_singleton.mp z];exact F7 (fplt b hb)
  refine aDQ (fun n s'=>∃(i:Nat)(σ':St)(H':Hp)(acc:List V)(its:List Value)(nn:Nat),Inv (gE X N' scope P2.objs.size s2 H2 fp pins) [] σ' H' s'/\tn i s'.heap/\(∀b∈fp,H' b=none)/\H' s2.heap.objs.size=none /\
   s'.heap.get? s2.heap.objs.size=some { cls:=.type "list",data:=.seq its.toArray nn }/\bK acc its/\acc.length<=sizeLine/\W i n acc σ' H') ?_ m0
   ⟨0,AG cap σ,H2,[],[],0,I4,T.keep _ _ _ st2 fun b _ o e=>old b o e,fun b hb=>(f2 b hb).1,I2.hok.fresh (A7 _),hD0,.nil,D6 _,w0⟩
  rintro n s5 ⟨i,σ',H',acc,its,nn,I5,t5,fr5,d5,g5,va,la,w5⟩
  have I5p:Inv (gE X N' scope P2.objs.size s2 H2 fp pins) [(s2.heap.objs.size,{ cls:=.type "list",data:=.seq its.toArray nn })] σ' H' s5:=I5.pins_of fun p hp=>by
   rw[List.mem_singleton.mp hp];exact⟨g5,d5,hDC,hfrD,fun v z=>by cases z⟩
  rcases turn i n acc σ' H' w5 with⟨stop,q⟩|⟨go,lt,N,hN,step⟩
  .refine thn (T.done (gE X N' scope P2.objs.size s2 H2 fp pins) rfl rfl rfl hc i _ s5 σ' H' _ I5p (stat fr5) t5 stop) fun r s6 ⟨hr,I6⟩=>.inl ⟨hr,?_⟩;have d6:=(I6.pin (s2.heap.objs.size,{ cls:=.type "list",data:=.seq its.toArray nn }) (by simp)).1;have nC:H' P2.objs.size=none:=I6.free;refine post _ _ H' acc s6 hDC (let⟨m,hn,_⟩:=I6.loc;⟨m,hn⟩) (fun h' hs'=>?_) (I2.fpOk hC (by rw[aL hDC.symm];exact nC)) (q _ d5);have up:∀b o,b≠P2.objs.size->s6.heap.get? b=some o->h'.get? b=some o:=fun b o hb e=>hs'.extBut b o hb e;have ltC:∀b o,s2.heap.get? b=some o->b≠P2.objs.size/\b≠s2.heap.objs.size:=fun b o e=>⟨B6 (B8 (B0 e) hC),B6 (B0 e)⟩;have u6:Un (frs X.stack) fp H2 H' s2.heap s6.heap:=I6.base
   have u7:Un (frs X.stack) fp H2 (upd H' s2.heap.objs.size (.lst acc)) s2.heap h':=by
    refine⟨fun b o e n hb hx=>up b o (ltC b o e).1 (u6.keep b o e n hb hx),fun b o e n hb hx=>?_,fun b o e n hx=>?_,fun b o e hx=>?_,fun b xs e=>?_,fun b o u e=>?_,fun b ps e=>?_⟩
    .obtain⟨sl,q⟩:=u6.slot b o e n hb hx;exact⟨sl,up b _ (ltC b o e).1 q⟩
    .rw[aL (ltC b o e).2];exact u6.free b o e n hx
    .obtain⟨o',q⟩:=u6.there b o e hx;exact⟨o',up b o' (ltC b o e).1 q⟩
    .have z:=u6.tups b xs e;rw[aL (aQ z d5)];exact z
    .have z:=u6.frzs b o u e;rw[aL (aQ z d5)];exact z
    .obtain⟨more,z⟩:=u6.tbls b ps e;exact⟨more,by rw[aL (aQ z d5)];exact z⟩
   have ok7:HOk X.prog X.w (upd H' s2.heap.objs.size (.lst acc)) h':=fun b u e=>by
    by_cases hb:b=s2.heap.objs.size
    .subst hb;rw[aR]at e;cases e;exact⟨la,its,nn,va,up _ _ hDC d6⟩
    .rw[aL hb]at e;refine(I6.hok b u e).stay (fun c v hc' z=>up c v ?_ z) (fun c z=>by rw[aL (aQ z d5)];exact z) fun c xs z=>by rw[aL (aQ z d5)];exact z
     rcases hc' with rfl|z
     .exact aQ e nC
     .exact aQ z nC
   have os6:s6.os=s2.os:=I6.os;have ba6:=I6.bare;obtain⟨hh,gg,dd,tt,oo⟩:=s6;subst os6;have z7:=I2.call (s:=s2) (h':=h') (g':=gg) (d':=dd) (t':=tt) (ch:=fp) u7 ok7 ba6 fun b hb=>⟨(f2 b hb).2.2.2.1,(f2 b hb).2.1,(f2 b hb).2.2.2.2.1,(f2 b hb).2.2.2.2.2⟩;exact z7
  .refine thn (T.item (gE X N' scope P2.objs.size s2 H2 fp pins) rfl rfl rfl hc i _ s5 σ' H' _ I5p (stat fr5) t5 go) fun r s6 ⟨u,hr,h6⟩=>.inr ⟨u,hr,?_⟩;refine thn h6 fun _ s7 ⟨x,H7,I7,r7,y7,t7,fr7⟩=>?_;have I7':=I7.pinned (stat fr7) (T.obj _ _ t7)
   have back:∀{σx:St}{Hx:Hp}{sx:Shared},Inv (gE X N' scope P2.objs.size s2 H2 fp pins) ([(s2.heap.objs.size,{ cls:=.type "list",data:=.seq its.toArray nn })]++yW fp s7.heap) σx Hx sx->
    (∀b∈fp,∀o,s7.heap.get? b=some o->sx.heap.get? b=some o)/\(∀b∈fp,Hx b=none)/\sx.heap.get? s2.heap.objs.size=some { cls:=.type "list",data:=.seq its.toArray nn }/\Hx s2.heap.objs.size=none:=fun{σx Hx sx} Ix=>by
    refine⟨fun b hb o e=>(Ix.pin (b,o) (C9 _ (C9 _ (jI hb e)))).1,fun b hb=>?_,?_,?_⟩
    .obtain⟨o,e,_⟩:=T.obj _ _ t7 b hb;exact(Ix.pin (b,o) (C9 _ (C9 _ (jI hb e)))).2.1
    .exact(Ix.pin (s2.heap.objs.size,_) (C9 _ (F0 _ (List.mem_singleton.mpr rfl)))).1
    .exact(Ix.pin (s2.heap.objs.size,{ cls:=.type "list",data:=.seq its.toArray nn }) (C9 _ (F0 _ (List.mem_singleton.mpr rfl)))).2.1
   refine thn (hg _ _ _ _ _ _ s7 σ' H7 x u _ I7' r7 (step x H7 y7)) fun _ s8 ⟨σ8,H8,I8,q8⟩=>?_;refine thn (hif _ _ _ _ _ _ s8 σ8 H8 _ I8 q8) fun b s9 ⟨H9,I9,q9⟩=>?_;rcases q9 with⟨rfl,q9⟩|⟨rfl,n9⟩
   .refine .inl ⟨rfl,thn (he _ _ _ _ _ _ s9 σ8 H9 _ I9 q9) fun uv s10 ⟨v,H10,I10,rv,n10⟩=>?_⟩;obtain⟨m',hm,w10⟩:=hN _ _ _ n10;obtain⟨b1,b2,b3,b4⟩:=back I10;refine wpAny_list_append_plain ⟨nn,b3⟩ (fun h' hp hs'=>?_) (by rw[D0,<- va.length];exact la);obtain⟨n2,e2⟩:=hp;have up:∀b o,b≠s2.heap.objs.size->s10.heap.get? b=some o->h'.get? b=some o:=fun b o hb e=>hs'.extBut b o hb e;have I10':Inv (gE X N' scope P2.objs.size s2 H2 fp pins) [] σ8 H10 s10:=I10.pins_of fun p hp=>absurd hp (by simp);refine⟨m',hm,i+1,σ8,H10,acc++[v],its++[uv],n2,I10'.turned (t':=s10.toks) up b4 hDC (.inr (A7 _)) (fun x c e=>B6 (cne x c e)) (fun p hp=>?_),T.keep _ _ _ t7 fun b hb o e=>up b o (B6 (fplt b hb)) (b1 b hb o e),b2,b4,?_,va.append (.cons rv .nil),?_,w10⟩
    .have hp':p∈X.pn++pins:=by
      rcases List.mem_append.mp hp with z|z
      .exact z
      .exact absurd z (by simp)
     exact B6 (B0 (I2.pin p hp').1)
    .rw[e2];simp
    .rw[A9,L5];exact lt
   .obtain⟨m',hm,w9⟩:=hN _ _ _ n9;obtain⟨b1,b2,b3,b4⟩:=back I9;exact .inr ⟨rfl,m',hm,i+1,σ8,H9,acc,its,nn,I9.pins_of fun p hp=>absurd hp (by simp),T.keep _ _ _ t7 b1,b2,b4,b3,va,la,w9⟩
 exact codeAny_compStart_list (loop _ rfl) (T.self _ 0 _ _ _ (T.keep _ _ _ st2 fun b _ o e=>old b o e) (loop _ rfl))
theorem aAV{elt tg iter:Expr}{ifs:List Expr}{pos:Pos}{wi:TI}{g:TG}{tc:TT}{te:TE}(hc:X.calm=true)(S:rC X N' cap scope)(hi:PI X tg iter wi)
 (hg:∀C s H fp pn,PG (gE X N' scope C s H fp pn) tg g) (hif:∀C s H fp pn,NT (gE X N' scope C s H fp pn) ifs tc) (he:∀C s H fp pn,PE (gE X N' scope C s H fp pn) elt te)
 (hs:∀x,foldedSetIterable iter X.env x=pure x:=by intro _;rfl):PE X (.ListComp elt [⟨tg,iter,ifs,0⟩] scope pos) (tLc cap wi g tc te):=by
 sleep 10;rw[eval_ListComp];refine XQ (use:=none) (Q:=Q) hc S hi hg hif he hs I h fun D C H' acc s' hDC ⟨m,hn⟩ hI _ hq=>⟨m,hn,fun h' hs'=>?_⟩;exact⟨.ref D,_,hI h' hs',rfl,hq⟩
theorem ZJ{i:Nat}{x:Str}{elt tg iter:Expr}{ifs:List Expr}{pos pos' pos'':Pos}{wi:TI}{g:TG}{tc:TT}{te:TE}(hN:X.N.Nodup)(hix:X.N[i]?=some x)(hc:X.calm=true)(S:rC X N' cap scope)(hi:PI X tg iter wi)
 (hg:∀C s H fp pn,PG (gE X N' scope C s H fp pn) tg g) (hif:∀C s H fp pn,NT (gE X N' scope C s H fp pn) ifs tc) (he:∀C s H fp pn,PE (gE X N' scope C s H fp pn) elt te)
 (hsw:swapsWith (.ListComp elt [⟨tg,iter,ifs,0⟩] scope pos) (some (.Name x pos')) pos''.line X.env=pure true:=by rfl) (hx:X.env.scope.names.lookup x=some .local:=by rfl)
 (hs:∀x,foldedSetIterable iter X.env x=pure x:=by intro _;rfl):PS X (.Assign [.Name x pos'] (.ListComp elt [⟨tg,iter,ifs,0⟩] scope pos) pos'') (aCu (tLc cap wi g tc te) (OI i)):=by
 sleep 19;rw[exec_Assign_Name_used _ _ _ _ hsw];refine A0 (S4 (A0 ?_));show wpAny _ _ (comprehension (.ListComp elt [⟨tg,iter,ifs,0⟩] scope pos) scope X.env _ (newList []) false (firstIter [⟨tg,iter,ifs,0⟩] X.env) (some (assign (.Name x pos') X.env)) >>= fun _=>pure ()) _ _ s;refine A0 (thn (XQ (use:=some (assign (.Name x pos') X.env)) (QQ:=fun _ s'=>∃σ' H',Inv X pins σ' H' s'/\D.nx σ' H') (Q:=fun v H1=>OI i v σ H1 D.nx) hc S hi hg hif he hs I h fun E C H' acc s' hDC ⟨m,hn⟩ hI fC hq=>?_) fun _ s' hz=>A6 (A6 hz));have I1:Inv X pins σ (upd H' E (.lst acc)) s':=hI s'.heap (Heap.SameBut.refl ..);have I1:Inv X pins σ (upd H' E (.lst acc)) s':=I1;refine wpAny_assign_Name (GG (M:=model X.prog X.w) (A:=X.A) (E:=X.xe) I1 hN hix (.inl hx) (v:=.ref E) (u:=.ref E) rfl (fun s2 I2 hsb=>?_) (.inr hx));obtain⟨a,hs2,ha⟩:=hsb
 have hne:C≠a:=by
  rcases ha with z|z
  .rw[z];exact fC.2.1
  .exact fun w=>fC.2.2.2.2.1 x a z w.symm
 refine⟨m,hn.extBut hs2.extBut hne,fun h' hs'=>?_⟩;exact⟨_,_,I2.turned (t':=s2.toks) (fun b o hb e=>hs'.extBut b o hb e) fC.1 fC.2.1 fC.2.2.2.1 fC.2.2.2.2.1 fC.2.2.2.2.2,hq⟩
end
noncomputable def aAq:Key->PyData
 |.inl i=>.int i
 |.inr x=>.str x
mutual
noncomputable def Rep(K:Fg)(H:Hp):PyData->V->Prop
 |.none,v=>v=.non
 |.bool b,v=>v=.bl b
 |.int i,v=>v=.int i
 |.str x,v=>v=.str x
 |.list xs,v=>∃a vs,v=.ref a/\SqL K H a vs/\aJ K H xs vs
 |.tuple xs,v=>∃a vs,v=.ref a/\SqT K H a vs/\aJ K H xs vs
 |.dict kvs,v=>∃a ks,v=.ref a/\H a=some (.dK ks)/\pA K H kvs ks
noncomputable def aJ(K:Fg)(H:Hp):List PyData->List V->Prop
 |[],vs=>vs=[]
 |d::ds,vs=>∃v r,vs=v::r/\Rep K H d v/\aJ K H ds r
noncomputable def pA(K:Fg)(H:Hp):List (PyData×PyData)->List (Key×V)->Prop
 |[],ks=>ks=[]
 |(k,d)::kvs,ks=>∃k' v r,ks=(k',v)::r/\k=aAq k'/\Rep K H d v/\pA K H kvs r
end
theorem jO.seqT{a:Addr}{xs:List V}(e:jO H H')(h:SqT K H a xs):SqT K H' a xs:=by
 rcases h with h|h
 .refine .inl ?_;rcases h with h|⟨o,h⟩
  .exact .inl (e _ _ h)
  .exact .inr ⟨o,e _ _ h⟩
 .exact .inr h
mutual
theorem Rep.same{K:Fg}{H H':Hp}(e:jO H H'):∀(d:PyData)(v:V),Rep K H d v->Rep K H' d v
 |.none=>fun v h=>h
 |.bool b=>fun v h=>h
 |.int i=>fun v h=>h
 |.str x=>fun v h=>h
 |.list xs=>fun v h=>by
  obtain⟨a,vs,h1,h2,h3⟩:=h;exact⟨a,vs,h1,e.seq h2,aJ.same e xs vs h3⟩
 |.tuple xs=>fun v h=>by
  obtain⟨a,vs,h1,h2,h3⟩:=h;exact⟨a,vs,h1,e.seqT h2,aJ.same e xs vs h3⟩
 |.dict kvs=>fun v h=>by
  obtain⟨a,ks,h1,h2,h3⟩:=h;exact⟨a,ks,h1,e _ _ h2,pA.same e kvs ks h3⟩
theorem aJ.same{K:Fg}{H H':Hp}(e:jO H H'):∀(ds:List PyData)(vs:List V),aJ K H ds vs->aJ K H' ds vs
 |[]=>fun vs h=>h
 |d::ds=>fun vs h=>by
  obtain⟨v,r,h1,h2,h3⟩:=h;exact⟨v,r,h1,Rep.same e d v h2,aJ.same e ds r h3⟩
theorem pA.same{K:Fg}{H H':Hp}(e:jO H H'):∀(kvs:List (PyData×PyData))(ks:List (Key×V)),pA K H kvs ks->pA K H' kvs ks
 |[]=>fun ks h=>h
 |(k,d)::kvs=>fun ks h=>by
  obtain⟨k',v,r,h1,h2,h3,h4⟩:=h;exact⟨k',v,r,h1,h2,Rep.same e d v h3,pA.same e kvs r h4⟩
end
theorem aJ.length{K:Fg}{H:Hp}:∀{ds:List PyData}{vs:List V},aJ K H ds vs->ds.length=vs.length
 |[],vs=>fun h=>by rw[show vs=[]from h];rfl
 |d::ds,vs=>fun h=>by
  obtain⟨v,r,h1,_,h3⟩:=h;rw[h1,C0,C0,aJ.length h3]
theorem aJ.get{K:Fg}{H:Hp}:∀{ds:List PyData}{vs:List V}{i:Nat}{v:V},aJ K H ds vs->vs[i]?=some v->∃d,ds[i]?=some d/\Rep K H d v
 |[],vs,i,v=>fun h e=>by rw[show vs=[]from h]at e;simp at e
 |d::ds,vs,0,v=>fun h e=>by
  obtain⟨w,r,h1,h2,h3⟩:=h;rw[h1]at e;simp at e;subst e;exact⟨d,rfl,h2⟩
 |d::ds,vs,i+1,v=>fun h e=>by
  obtain⟨w,r,h1,h2,h3⟩:=h;rw[h1]at e;exact aJ.get (i:=i) h3 (by simpa using e)
theorem aJ.app{K:Fg}{H:Hp}:∀{ds es:List PyData}{vs ws:List V},aJ K H ds vs->aJ K H es ws->aJ K H (ds++es) (vs++ws)
 |[],es,vs,ws=>fun h k=>by rw[show vs=[]from h];exact k
 |d::ds,es,vs,ws=>fun h k=>by
  obtain⟨v,r,h1,h2,h3⟩:=h;exact⟨v,r++ws,by rw[h1];rfl,h2,aJ.app h3 k⟩
section
variable{X:Cx}{pins:List (Addr×Obj)}{σ:St}{H:Hp}{s:Shared}
theorem Inv.sysN(I:Inv X pins σ H s):H sysModules=none:=by
 obtain⟨o,es,ep,h,_⟩:=I.mod.sysm;exact(I.bs _ _ h).2
theorem Inv.sysL(I:Inv X pins σ H s){a:Addr}{xs:List V}(h:SqL X.K H a xs):sysModules≠a:=by
 intro e;subst e;have hn:=I.sysN;rcases h with(h|⟨o,h⟩)|⟨o,its,n,hk,_,_,hd,_⟩
 .rw[hn]at h;cases h
 .rw[hn]at h;cases h
 .obtain⟨o',es,ep,h',hd'⟩:=I.mod.sysm;have:=I.mod.kin _ _ hk;rw[h']at this;cases this;rw[hd]at hd';cases hd'
mutual
theorem Rep.reads'(I:Inv X pins σ H s):∀(d:PyData)(v:V)(u:Value),Rep X.K H d v->RelV v u->∃as,Reads s.heap u d as/\sysModules∉as
 |.none=>fun v u r q=>by
  rw[show v=.non from r]at q;rw[show u=Value.none from q];exact⟨_,.none,by simp⟩
 |.bool b=>fun v u r q=>by
  rw[show v=.bl b from r]at q;rw[show u=Value.bool b from q];exact⟨_,.bool b,by simp⟩
 |.int i=>fun v u r q=>by
  rw[show v=.int i from r]at q;obtain⟨t,rfl⟩:=(show ∃t,u=Value.int i t from q);exact⟨_,.int i t,by simp⟩
 |.str x=>fun v u r q=>by
  rw[show v=.str x from r]at q;obtain⟨t,rfl⟩:=(show ∃t,u=Value.str x t from q);exact⟨_,.str x t,by simp⟩
 |.list xs=>fun v u r q=>by
  obtain⟨a,vs,rfl,h2,h3⟩:=r;rw[show u=Value.ref a from q];obtain⟨its,hv,⟨o,n,hg,hc,_,hd⟩,_⟩:=I.list h2;obtain⟨as,ha,hs⟩:=aJ.reads' I xs vs its h3 hv;exact⟨_,.list hg hc hd (by simpa using ha),fun z=>(List.mem_cons.mp z).elim (I.sysL h2) hs⟩
 |.tuple xs=>fun v u r q=>by
  obtain⟨a,vs,rfl,h2,h3⟩:=r;rw[show u=Value.ref a from q];obtain⟨its,hv,⟨o,hg,hc,n,hd⟩,_⟩:=I.tuple h2;obtain⟨as,ha,hs⟩:=aJ.reads' I xs vs its h3 hv;exact⟨_,.tuple hg hc hd (by simpa using ha),hs⟩
 |.dict kvs=>fun v u r q=>by
  obtain⟨a,ks,rfl,h2,h3⟩:=r;rw[show u=Value.ref a from q];obtain⟨_,hS,vs,hkv,o,es,ep,hg,hex,hd,_,hp,_⟩:=(show dM X.prog X.w H s.heap a (.dK ks)from I.hok a _ h2);obtain⟨as,bs,h4,h5,n1,n2⟩:=pA.reads' I kvs ks vs es.toList h3 hkv hp;refine⟨_,.dict hg hex.1 hd h4 h5,fun z=>?_⟩;rcases List.mem_append.mp z with z|z
  .rcases List.mem_cons.mp z with z|z
   .rw[z]at hS;simp at hS
   .exact n1 z
  .exact n2 z
theorem aJ.reads'(I:Inv X pins σ H s):∀(ds:List PyData)(vs:List V)(us:List Value),aJ X.K H ds vs->bK vs us->∃as,ReadsAll s.heap us ds as/\sysModules∉as
 |[]=>fun vs us r q=>by
  rw[show vs=[]from r]at q;cases q;exact⟨_,.nil,by simp⟩
 |d::ds=>fun vs us r q=>by
  obtain⟨v,t,rfl,h2,h3⟩:=r;cases q with
  |cons q1 q2=>
   obtain⟨as,ha,n1⟩:=Rep.reads' I d v _ h2 q1;obtain⟨bs,hb,n2⟩:=aJ.reads' I ds t _ h3 q2;exact⟨_,.cons ha hb,fun z=>(List.mem_append.mp z).elim n1 n2⟩
theorem pA.reads'(I:Inv X pins σ H s):∀(kvs:List (PyData×PyData))(ks:List (Key×V))(vs:List (Key×Value))(es:List DictEntry),pA X.K H kvs ks->KV ks vs->Pairs (eE X.prog X.w) es vs->
 ∃as bs,ReadsAll s.heap (es.map (·.key)) (kvs.map (·.1)) as/\ReadsAll s.heap (es.map (·.val)) (kvs.map (·.2)) bs/\sysModules∉as/\sysModules∉bs
 |[]=>fun ks vs es r q p=>by
  rw[show ks=[]from r]at q;cases q;cases p;exact⟨_,_,.nil,.nil,by simp,by simp⟩
 |(k,d)::kvs=>fun ks vs es r q p=>by
  obtain⟨k',v,t,rfl,h1,h2,h3⟩:=r;cases q with
  |@cons _ kv _ vs' q1 q2=>
   cases p with
   |@cons e _ es' _ p1 p2 p3=>
    obtain⟨as,bs,ha,hb,n1,n2⟩:=pA.reads' I kvs t _ _ h3 q2 p3;obtain⟨cs,hc,n3⟩:=Rep.reads' I d v _ h2 q1.2
    have hkey:Reads s.heap e.key k []:=by
     rw[h1];have p1':CS kv.1 e.key=true:=p1;rw[<- show k'=kv.1 from q1.1]at p1';rcases dJ p1' with⟨i,t',rfl,he⟩|⟨x,t',rfl,he⟩
     .rw[he];exact .int i t'
     .rw[he];exact .str x t'
    refine⟨_,_,.cons hkey ha,.cons (show Reads s.heap e.val d cs by rw[p2];exact hc) hb,by simpa using n1,fun z=>(List.mem_append.mp z).elim n3 n2⟩
end
theorem Rep.reads(I:Inv X pins σ H s)(d:PyData)(v:V)(u:Value)(r:Rep X.K H d v)(q:RelV v u):∃as,Reads s.heap u d as:=let⟨as,h,_⟩:=Rep.reads' I d v u r q;⟨as,h⟩
theorem aJ.reads(I:Inv X pins σ H s)(ds:List PyData)(vs:List V)(us:List Value)(r:aJ X.K H ds vs)(q:bK vs us):∃as,ReadsAll s.heap us ds as:=let⟨as,h,_⟩:=aJ.reads' I ds vs us r q;⟨as,h⟩
end
section
variable{X:Cx}
noncomputable def YS(K:Fg)(neg:Bool):R2:=fun x y H Q=>∃dx dy,Rep K H dx x/\Rep K H dy y/\SeqAt.shaped dx=true/\SeqAt.shaped dy=true/\Q (.bl (if neg then !PyData.eqv dx dy else PyData.eqv dx dy)) H
theorem aFK(hu:X.A.units+64<cLine):OpR X (compareOp .Eq) (YS X.K false):=by
 sleep 13;obtain⟨dx,dy,hx,hy,sx,sy,q⟩:=h;obtain⟨as,ha⟩:=Rep.reads I dx x v hx rx;obtain⟨bs,hb⟩:=Rep.reads I dy y u hy ry;exact eq_dataH ha hb sx sy hu ⟨.bl _,H,I,rfl,q⟩
theorem aIv(hu:X.A.units+64<cLine):OpR X (compareOp .NotEq) (YS X.K true):=by
 sleep 13;obtain⟨dx,dy,hx,hy,sx,sy,q⟩:=h;obtain⟨as,ha⟩:=Rep.reads I dx x v hx rx;obtain⟨bs,hb⟩:=Rep.reads I dy y u hy ry;exact ne_dataH ha hb sx sy hu ⟨.bl _,H,I,rfl,q⟩
open Classical in
noncomputable def uE(h:Heap)(dv:PyData)(u:Value):Bool:=if ∃d as,Reads h u d as/\PyData.eqv d dv=true then true else false
theorem aET{h:Heap}{dv d:PyData}{u:Value}{as:List Addr}(r:Reads h u d as)(hc:d.canLay0=true):uE h dv u=PyData.eqv d dv:=by
 unfold uE;by_cases e:PyData.eqv d dv=true
 .rw[A3 ⟨d,as,r,e⟩,e]
 .rw[A5,Bool.eq_false_iff.mpr e];rintro⟨d',as',r',e'⟩;have:=SeqAt.Reads.unique d d' u as as' hc r r';subst this;exact e e'
theorem rQ{A:Around}{s:Shared}{v:Value}{dv:PyData}{av:List Addr}(hv:Reads s.heap v dv av)(sv:SeqAt.shaped dv=true)(hu:A.units+64<cLine):
 ∀(us:List Value)(ds:List PyData)(as:List Addr),ReadsAll s.heap us ds as->ds.all SeqAt.shaped=true->(∀y∈us,SeqAt.EqAt A s y v (uE s.heap dv y))/\us.any (uE s.heap dv)=ds.any fun d=>PyData.eqv d dv
 |[]=>fun ds as r _=>by
  cases r;exact⟨fun y hy=>absurd hy (by simp),rfl⟩
 |y::us=>fun ds as r hs=>by
  cases r with
  |@cons _ _ d ds' as1 bs1 r1 r2=>
   rw[List.all_cons,B4]at hs;obtain⟨h1,h2⟩:=rQ hv sv hu us _ _ r2 hs.2;have e:=aET (dv:=dv) r1 (O9 hs.1);have hy:SeqAt.EqAt A s y v (PyData.eqv d dv):=SeqAt.eqAt_reads d dv A s y v _ _ r1 hv (O9 hs.1) (O9 sv) (SeqAt.room_of_shaped hs.1 hu);refine⟨fun z hz=>?_,by rw[L6,L6,e,h2]⟩;rcases List.mem_cons.mp hz with q|q
   .rw[q,e];exact hy
   .exact h1 z q
noncomputable def XH(K:Fg)(neg:Bool):R2:=fun x y H Q=>∃dx ds p vs,Rep K H dx x/\y=.ref p/\(SqL K H p vs\/SqT K H p vs)/\aJ K H ds vs/\SeqAt.shaped dx=true/\ds.all SeqAt.shaped=true /\
 Q (.bl (if neg then !ds.any fun d=>PyData.eqv d dx else ds.any fun d=>PyData.eqv d dx)) H
theorem aHR(hu:X.A.in1.units+64<cLine):OpR X (compareOp .In) (XH X.K false):=by
 sleep 13;obtain⟨dx,ds,p,vs,hx,rfl,hp,hds,sx,sds,q⟩:=h;cases ry;obtain⟨as,ha⟩:=Rep.reads I dx x v hx rx;rcases hp with hp|hp
 .obtain⟨its,r,pl,hz⟩:=I.list hp;obtain⟨bs,hb⟩:=aJ.reads I ds vs its hds r;obtain⟨h1,h2⟩:=rQ (A:=X.A.in1) ha sx hu its ds bs hb sds;refine SeqAt.in_listAt (uE s.heap dx) pl.isList (fun w hw=>h1 w (by simpa using hw)) ⟨.bl _,H,I,rfl,?_⟩;rw[show its.toArray.any (uE s.heap dx)=its.any (uE s.heap dx)by simp,h2];exact q
 .obtain⟨its,r,pl,hz⟩:=I.tuple hp;obtain⟨bs,hb⟩:=aJ.reads I ds vs its hds r;obtain⟨h1,h2⟩:=rQ (A:=X.A.in1) ha sx hu its ds bs hb sds;refine SeqAt.in_tupleAt (uE s.heap dx) pl (fun w hw=>h1 w (by simpa using hw)) ⟨.bl _,H,I,rfl,?_⟩;rw[show its.toArray.any (uE s.heap dx)=its.any (uE s.heap dx)by simp,h2];exact q
theorem VF(hu:X.A.in1.units+64<cLine):OpR X (compareOp .NotIn) (XH X.K true):=by
 sleep 13;obtain⟨dx,ds,p,vs,hx,rfl,hp,hds,sx,sds,q⟩:=h;cases ry;obtain⟨as,ha⟩:=Rep.reads I dx x v hx rx;rcases hp with hp|hp
 .obtain⟨its,r,pl,hz⟩:=I.list hp;obtain⟨bs,hb⟩:=aJ.reads I ds vs its hds r;obtain⟨h1,h2⟩:=rQ (A:=X.A.in1) ha sx hu its ds bs hb sds;refine SeqAt.notIn_listAt (uE s.heap dx) pl.isList (fun w hw=>h1 w (by simpa using hw)) ⟨.bl _,H,I,rfl,?_⟩;rw[show its.toArray.any (uE s.heap dx)=its.any (uE s.heap dx)by simp,h2];exact q
 .obtain⟨its,r,pl,hz⟩:=I.tuple hp;obtain⟨bs,hb⟩:=aJ.reads I ds vs its hds r;obtain⟨h1,h2⟩:=rQ (A:=X.A.in1) ha sx hu its ds bs hb sds;refine SeqAt.notIn_tupleAt (uE s.heap dx) pl (fun w hw=>h1 w (by simpa using hw)) ⟨.bl _,H,I,rfl,?_⟩;rw[show its.toArray.any (uE s.heap dx)=its.any (uE s.heap dx)by simp,h2];exact q
theorem bK.types:∀{Ts:List String}{its:List Value},bK (Ts.map V.ty) its->its=Ts.map Value.type
 |[],_=>fun h=>by cases h;rfl
 |t::Ts,its=>fun h=>by
  cases h with
  |cons r1 r2=>rw[show _=Value.type t from r1,bK.types r2];rfl
theorem bK.bools:∀{bs:List Bool}{its:List Value},bK (bs.map V.bl) its->its=bs.map Value.bool
 |[],_=>fun h=>by cases h;rfl
 |b::bs,its=>fun h=>by
  cases h with
  |cons r1 r2=>rw[show _=Value.bool b from r1,bK.bools r2];rfl
theorem all_range(bs:List Bool):(List.range bs.length).all (fun i=>bs.getD i false)=bs.all id:=by
 rw[O3];simp only[List.all_eq_true,List.mem_range,id];constructor
 .intro h b hb;obtain⟨i,hi,rfl⟩:=List.mem_iff_getElem.mp hb;have:=h i hi;rw[C2,B5 hi]at this;exact this
 .intro h i hi;rw[C2,B5 hi];exact h _ (L8 hi)
theorem NL{prog:Program}{w:World}{A:Around}{bs:List Bool}:TruthOf prog w A (fun i v=>(bs.map Value.bool).toArray[i]?=some v) (fun i=>bs.getD i false):=by
 intro i v s Q E hP hQ;rw[List.getElem?_toArray,D5]at hP;cases e:bs[i]? with
 |none=>rw[e]at hP;cases hP
 |some b=>
  rw[e]at hP;cases hP;have hb:bs.getD i false=b:=by rw[C2,e];rfl
  have hQ':Q (bs.getD i false) s:=hQ;rw[hb]at hQ';exact I0 hQ'
def rH:Nat:=2 ^ 8000
noncomputable def QZ(i:Int):Prop:=i.natAbs<rH
theorem NJ{j:Int}(h:QZ j):j.natAbs.log2<9000:=by
 by_cases h0:j.natAbs=0
 .rw[h0];decide +kernel
 .exact O1 ((Nat.log2_lt h0).mpr h) (by decide)
noncomputable def aKg(i j:Int):Prop:=QZ i/\QZ j
theorem GH{j:Int}(h:QZ j):Builtin.Int.intBits j<=2 ^ 20:=by
 unfold Builtin.Int.intBits;by_cases h0:(j==0)=true
 .rw[A3 h0];exact D6 _
 .rw[A5 h0];have:=NJ h;omega
end
structure Callee(P:Program)(w:World)(K:Fg)(mg:Str->Option Value)(base:Heap)(k:Nat)(x:Str)(ps:List Str)(sp:Sp)(q:Bool:=true):Prop where
 ex:∃f fd,jF P w K mg base CX0 k f fd ps sp q/\mg x=some (.ref f)/\PySem.W.keepIn K (.ref f)=true/\Binds K fd ps []
structure Def(K:Fg)(mg:Str->Option Value)(x:Str)(st:Stmt):Prop where
 ex:∃f fd,Fun K x x st f fd/\mg x=some (.ref f)
section
variable{P:Program}{w:World}{K:Fg}{mg:Str->Option Value}{base:Heap}{X:Cx}
theorem Def.ok{x:Str}{st:Stmt}{N ps:List Str}{k:Nat}{sp:Sp}{q:Bool}(D:Def K mg x st)(S:aT N ps (aH st))
 (hb:∀(kV doc pm:Value)(an:Option Addr)(cdv ct:Value)(us:List Value),us.length=ps.length->bindArgs (PySem.W.fnOf x x (dW st) (bQ st) (aH st) .none kV doc pm an cdv ct) ⟨us,[]⟩=pure (ps.zip us))
 (len:∀vs H Q E,sp vs H Q E->vs.length=ps.length)
 (hbody:∀(f:Addr)(cdv:Value)(A:Around)(outer:List Env)(s:Shared)(H:Hp)(vs:List V)(Q:VK)(E:XK),cB k (A.deeper (envOfC x (aH st) s.heap.objs.size f cdv)) q->sp vs H Q E->
  ∃t,PSs (nR CX0 P w K mg base N x (aH st) f cdv A outer s H E q).nox (bQ st) t/\t { nx:=fun _ H'=>Q .non H',rt:=Q } (start N vs) H):Callee P w K mg base (k+1) x ps sp q:=by
 obtain⟨f,fd,F,m⟩:=D.ex;exact⟨f,fd,F.ok S len fun cdv A outer s H vs Q E hr h=>hbody f cdv A outer s H vs Q E hr h,m,F.kp,F.binds hb⟩
theorem Callee.mono{j k:Nat}{x:Str}{ps:List Str}{sp:Sp}(C:Callee P w K mg base j x ps sp)(h:j<=k):Callee P w K mg base k x ps sp:=by
 obtain⟨f,fd,F,r⟩:=C.ex;exact⟨f,fd,F.mono h,r⟩
theorem def_mk{x:Str}{st:Stmt}{h:Heap}{f:Addr}{oc:Value}{od an:Option Addr}{osl:Array (Option Value)}{kV doc pm cdv ct:Value}(X:K.In h)(G:h.Ns mainGlobals mg)(a:PySem.W.nsIn K mainGlobals x=some (some (.ref f)))
 (l:K.lookup f=some ⟨oc,od,.func (PySem.W.fnOf x x (dW st) (bQ st) (aH st) .none kV doc pm an cdv ct),osl⟩) (c:PySem.W.codeIn K cdv x=true) (k:PySem.W.keepIn K (.ref f)=true):Def K mg x st:=
 ⟨f,_,aAR l c k,J1 X G a⟩
theorem aFV{k:Nat}{x:Str}{ps:List Str}{sp:Sp}{p pos:Pos}{e:Expr}{es:List Expr}{t:TA}{q:Bool}(C:Callee X.prog X.w X.K X.mg X.base k x ps sp q)(hr:cB k X.A q)(ha:PA X (e::es) t)(hg:Gl X x:=by rfl)
 (hdb:(x==("__debug__":Str))=false:=by decide) (he:starEach (e::es) X.env=(false,eval e X.env)::starEach es X.env:=by rfl) (hpl:(backTo pos (starEach es X.env)).any (·.1)=false:=by rfl):
 PE X (.Call (.Name x p) (e::es) [] pos) (aBc sp [] E0 t):=by
 obtain⟨f,fd,F,m,kp,b⟩:=C.ex;exact RZ F hr hg m kp b .nil aJB ha hdb he hpl
theorem cB.units1{k:Nat}{A:Around}(r:cB k A):A.in1.units+64<cLine:=by have:=r.un;show A.units+1+64<_;omega
noncomputable def WQ(mg:Str->Option Value)(xs:List Str):Prop:=∀x∈xs,mg x=none
theorem WQ.of{xs:List Str}(h:WQ mg xs)(x:Str)(hx:x∈xs:=by decide +kernel):mg x=none:=h x hx
theorem ZU:WQ mg []:=fun _ h=>absurd h (by simp)
theorem eA{x:Str}{xs:List Str}(h:mg x=none)(hr:WQ mg xs):WQ mg (x::xs):=fun y hy=>(List.mem_cons.mp hy).elim (fun e=>e▸h) (hr y)
noncomputable def MR(i j:Int):Prop:=aGp i j\/aKg i j
theorem MR.ok{i j:Int}(h:MR i j):IntMulOk i j:=by
 rcases h with h|h
 .exact h.ok
 .exact IntMulOk.of_bits (GH h.1) (GH h.2)
theorem aEP:OpR X (binaryOp .Mult) (rI MR fun i j=>.int (i*j)):=opI fun _ _ _ _ _ _ _ hc q=>mul_int q hc.ok
noncomputable def aEU(_ j:Int):Prop:=0<j/\QZ j
theorem ZN:OpR X (binaryOp .FloorDiv) (rI aEU fun i j=>.int (i / j)):=opI fun i j _ _ _ _ _ hc q=>by
 refine floordiv_int (Int.ne_of_gt hc.1) ?_ (.inl (PyProof.noPylong_of_log2 (NJ hc.2)));rw[Int.fdiv_eq_ediv_of_nonneg _ (Int.le_of_lt hc.1)];exact q
end
noncomputable def aFa(sc0:Scope)(N N':List Str)(cap:List (Option Nat))(scope:Scope):Bool:=
 scope.names.all (fun y=>y.2 != .cell)&&(scope.kind==.function)&&scope.names.all (fun y=>y.2 != .local || scope.names.lookup y.1==some .local) &&
 scope.names.all (fun y=>y.2 != .free || (sc0.names.lookup y.1==some .cell || sc0.names.lookup y.1==some .free))&&(cap.length==N'.length) &&
 (List.range cap.length).all fun i=>match cap[i]? with
  |some (some j)=>(match N'[i]?,N[j]? with
   |some x,some y=>x==y&&scope.names.lookup x==some .free
   |_,_=>false)
  |_=>true
theorem fB{X:Cx}{sc0 scope:Scope}{N N':List Str}{cap:List (Option Nat)}(h1:X.env.scope=sc0)(h2:X.N=N)(h:aFa sc0 N N' cap scope=true):rC X N' cap scope:=by
 unfold aFa at h;simp only[Bool.and_eq_true,List.all_eq_true,beq_iff_eq,bne_iff_ne,ne_eq,Bool.or_eq_true,List.mem_range]at h;obtain⟨⟨⟨⟨⟨a,b⟩,c⟩,d⟩,e⟩,f⟩:=h;refine⟨a,b,fun y hy hk=>?_,fun y hy hk=>?_,e,fun i j hij=>?_⟩
 .rcases c y hy with z|z
  .exact absurd hk z
  .exact z
 .show X.env.scope.names.lookup y.1=_\/X.env.scope.names.lookup y.1=_;rw[h1];rcases d y hy with z|z
  .exact absurd hk z
  .exact z
 .have hi:i<cap.length:=(List.getElem?_eq_some_iff.mp hij).1;have g:=f i hi;rw[hij]at g;dsimp only at g;rw[h2];split at g
  .rename_i x y ex ey;rw[B4,beq_iff_eq,beq_iff_eq]at g;exact⟨x,ex,by rw[ey,g.1],g.2⟩
  .cases g
noncomputable def tyName:PyData->String
 |.none=>"NoneType"
 |.bool _=>"bool"
 |.int _=>"int"
 |.str _=>"str"
 |.list _=>"list"
 |.tuple _=>"tuple"
 |.dict _=>"dict"
noncomputable def asked:List String:=["int","bool","str","list","tuple","dict"]
noncomputable def isT(T S:String):Bool:=T==S || (T=="int"&&S=="bool")
noncomputable def nO(T:String)(d:PyData):Bool:=isT T (tyName d)
noncomputable def aJx(S T:String):Option Bool:=if (Value.type S==Value.type T)=true then some true else if PySem.W.kitMeta T=true then(PySem.fastBuiltinMro S).map (·.contains (Value.type T))else none
theorem aBK:(["NoneType","bool","int","str","list","tuple","dict"].all fun S=>asked.all fun T=>aJx S T==some (isT T S))=true:=by decide +kernel
theorem aBf{T:String}{d:PyData}(h:T∈asked):PySem.W.kitOne K (.type (tyName d)) (.type T)=some (nO T d):=by
 have e:PySem.W.kitOne K (.type (tyName d)) (.type T)=aJx (tyName d) T:=rfl;rw[e];have hk:=aBK;rw[List.all_eq_true]at hk;have h1:=hk (tyName d) (by cases d<;>simp[tyName]);rw[List.all_eq_true]at h1;exact eq_of_beq (h1 T h)
theorem TJ{K:Fg}{d:PyData}:∀{Ts:List String},(∀T∈Ts,T∈asked)->PySem.W.kitAny K (.type (tyName d)) (Ts.map Value.type)=some (Ts.any fun T=>nO T d)
 |[]=>fun _=>rfl
 |T::Ts=>fun h=>by
  rw[C4];unfold PySem.W.kitAny;rw[aBf (h T B3),L6];cases nO T d with
  |true=>rfl
  |false=>rw[Bool.false_or];exact TJ fun U hU=>h U (B1 _ hU)
section
variable{X:Cx}
theorem RW{pins:List (Addr×Obj)}{σ:St}{H:Hp}{s:Shared}(I:Inv X pins σ H s):∀{d:PyData}{v:V}{u:Value},Rep X.K H d v->RelV v u->∃Hc:Heap->Prop,PySem.W.KitX X.K u (.type (tyName d)) Hc/\Hc s.heap/\u≠.builtin "__main__.__loader__#opaque"
 |.none,v,u=>fun h r=>by
  rw[show v=.non from h]at r;cases (show u=Value.none from r);exact⟨_,PySem.W.kitx_none,True.intro,fun z=>nomatch z⟩
 |.bool b,v,u=>fun h r=>by
  rw[show v=.bl b from h]at r;cases (show u=Value.bool b from r);exact⟨_,PySem.W.kitx_bool,True.intro,fun z=>nomatch z⟩
 |.int i,v,u=>fun h r=>by
  rw[show v=.int i from h]at r;obtain⟨t,q⟩:=(show ∃t,u=Value.int i t from r);cases q;exact⟨_,PySem.W.kitx_int,True.intro,fun z=>nomatch z⟩
 |.str x,v,u=>fun h r=>by
  rw[show v=.str x from h]at r;obtain⟨t,q⟩:=(show ∃t,u=Value.str x t from r);cases q;exact⟨_,PySem.W.kitx_str,True.intro,fun z=>nomatch z⟩
 |.list xs,v,u=>fun h r=>by
  obtain⟨a,vs,rfl,h2,_⟩:=h;cases (show u=Value.ref a from r);obtain⟨its,hv,⟨o,n,hg,hc,_,hd⟩,_⟩:=I.list h2;exact⟨_,PySem.W.kitx_list,⟨o,hg,hc⟩,fun z=>nomatch z⟩
 |.tuple xs,v,u=>fun h r=>by
  obtain⟨a,vs,rfl,h2,_⟩:=h;cases (show u=Value.ref a from r);obtain⟨its,hv,⟨o,hg,hc,n,hd⟩,_⟩:=I.tuple h2;exact⟨_,PySem.W.kitx_tuple,⟨o,hg,hc⟩,fun z=>nomatch z⟩
 |.dict kvs,v,u=>fun h r=>by
  obtain⟨a,ks,rfl,h2,_⟩:=h;cases (show u=Value.ref a from r);obtain⟨_,_,vs,_,o,es,ep,h1,hx,_⟩:=(show dM X.prog X.w H s.heap a (.dK ks)from I.hok a _ h2);exact⟨_,PySem.W.kitx_dict,⟨o,h1,hx.1⟩,fun z=>nomatch z⟩
noncomputable def aDp(K:Fg):List V->Hp->VK->Prop:=fun xs H Q=>∃x T d,xs=[x,.ty T]/\T∈asked/\Rep K H d x/\Q (.bl (nO T d)) H
theorem VN:gO X (.builtin "isinstance") (aDp X.K):=by
 intro pins s σ H xs us Q I r h;obtain⟨x,T,d,rfl,hT,hd,q⟩:=h;obtain⟨u,u',rfl,ru,ru'⟩:=vals2 r;cases (show u'=Value.type T from ru');obtain⟨Hc,Z,hh,hne⟩:=RW I hd ru;exact PySem.W.kia_one Z I.kIn hh (aBf hT) hne fun tk=>⟨.bl _,H,I.tok tk,rfl,q⟩
noncomputable def aBZ(K:Fg):List V->Hp->VK->Prop:=fun xs H Q=>∃(x:V)(p:Addr)(Ts:List String)(d:PyData),xs=[x,.ref p]/\H p=some (.tup (Ts.map V.ty))/\(∀T∈Ts,T∈asked)/\Rep K H d x/\Q (.bl (Ts.any fun T=>nO T d)) H
theorem RG:gO X (.builtin "isinstance") (aBZ X.K):=by
 intro pins s σ H xs us Q I r h;obtain⟨x,p,Ts,d,rfl,hp,hT,hd,q⟩:=h;obtain⟨u,u',rfl,ru,ru'⟩:=vals2 r;cases (show u'=Value.ref p from ru');obtain⟨_,its,rv,o,hg,hcl,n,hd'⟩:=(show dM X.prog X.w H s.heap p (.tup (Ts.map V.ty))from I.hok p _ hp);have hits:its=Ts.map Value.type:=bK.types rv;subst hits;obtain⟨oc,od,odt,osl⟩:=o;dsimp only at hcl hd';subst hcl hd';obtain⟨Hc,Z,hh,hne⟩:=RW I hd ru;exact PySem.W.kia_tup Z I.kIn hh hg (TJ hT) hne fun tk=>⟨.bl _,H,I.tok tk,rfl,q⟩
end
theorem jO.upd{p:Addr}{o:HO}(h:H p=none):jO H (upd H p o):=fun b u e=>by rw[aL (aQ e h)];exact e
noncomputable def aW:PyData->Option (List PyData)
 |.list xs=>some xs
 |.tuple xs=>some xs
 |_=>none
theorem jT{K:Fg}{H:Hp}:∀{d:PyData}{v:V}{ds:List PyData},Rep K H d v->aW d=some ds->∃a vs,v=.ref a/\(SqL K H a vs\/SqT K H a vs)/\aJ K H ds vs
 |.list xs,v,ds=>fun h e=>by
  obtain⟨a,vs,h1,h2,h3⟩:=h;cases e;exact⟨a,vs,h1,.inl h2,h3⟩
 |.tuple xs,v,ds=>fun h e=>by
  obtain⟨a,vs,h1,h2,h3⟩:=h;cases e;exact⟨a,vs,h1,.inr h2,h3⟩
 |.none,_,_=>fun _ e=>by cases e
 |.bool _,_,_=>fun _ e=>by cases e
 |.int _,_,_=>fun _ e=>by cases e
 |.str _,_,_=>fun _ e=>by cases e
 |.dict _,_,_=>fun _ e=>by cases e
section
variable{X:Cx}{tg:Expr}
noncomputable def aDb(K:Fg)(tl:TE):TI:=fun σ H R=>tl σ H fun x H1=>∃a,x=.ref a/\((∃xs,SqL K H1 a xs/\R (Itl K a) H1)\/(∃xs,SqT K H1 a xs/\R (Itt K a) H1))
theorem aGz{l:Expr}{tl:TE}(hl:PE X l tl):PI X tg l (aDb X.K tl):=by
 intro pins s σ H R I h;refine thn (hl pins s σ H _ I h) fun v s1 hz=>?_;obtain⟨x,H1,I1,r1,a,e,q1⟩:=hz;subst e;cases r1
 have fp:∀b∈[s1.heap.objs.size],uH X pins H1 b:=fun b hb=>by
  have e:b=s1.heap.objs.size:=List.mem_singleton.mp hb;subst e;exact I1.fpOk (A7 _) (I1.hok.fresh (A7 _))
 rcases q1 with⟨xs,hq,q⟩|⟨xs,hq,q⟩
 .obtain⟨its,rv,p,hz⟩:=I1.list hq;refine wpAny_pyIter_list p.isList ?_;exact⟨s1.heap.objs.size,[s1.heap.objs.size],_,_,H1,rfl,I1.kept (t':=s1.toks) fun b o e=>A2 _ e,tP a _,⟨_,B7 _ rfl,rfl,rfl⟩,fp,q⟩
 .obtain⟨its,rv,p,hz⟩:=I1.tuple hq;refine Z6 (show s1.heap.IsTuple a its.toArray from p) ?_;exact⟨s1.heap.objs.size,[s1.heap.objs.size],_,_,H1,rfl,I1.kept (t':=s1.toks) fun b o e=>A2 _ e,RO a _,⟨_,B7 _ rfl,rfl,rfl⟩,fp,q⟩
end
inductive CD where
 |d (x:PyData)
 |c (n:Nat)
 |t (xs:List (PyData ⊕ Nat))
 |f (kvs:List (List Key×PyData))
inductive Cell where
 |lst (xs:List CD)
 |dk (kvs:List (Key×CD))
 |dt (kvs:List (List Key×CD))
 |obj (nm:Str) (fs:List (Str×CD))
 |exc (fr:Bool) (nm:Str) (fs:List (Str×CD))
 |dead
structure Wd where
 F:Hp
 α:Nat->Addr
 n:Nat
structure Wd.Ext(W W':Wd):Prop where
 ff:jO W.F W'.F
 ln:W.n<=W'.n
 al:∀i,i<W.n->W'.α i=W.α i
theorem Wd.Ext.refl(W:Wd):W.Ext W:=⟨jO.refl _,A7 _,fun _ _=>rfl⟩
theorem Wd.Ext.trans{W1 W2:Wd}(a:W.Ext W1)(b:W1.Ext W2):W.Ext W2:=⟨a.ff.trans b.ff,C8 a.ln b.ln,fun i h=>(b.al i (B8 h a.ln)).trans (a.al i h)⟩
noncomputable def LR(K:Fg)(W:Wd):PyData ⊕ Nat->V->Prop
 |.inl x,v=>Rep K W.F x v
 |.inr i,v=>i<W.n/\v=.ref (W.α i)
noncomputable def cdA:PyData ⊕ Nat->CD
 |.inl x=>.d x
 |.inr i=>.c i
noncomputable def cF(K:Fg)(W:Wd):CD->V->Prop
 |.d x,v=>Rep K W.F x v
 |.c i,v=>i<W.n/\v=.ref (W.α i)
 |.t xs,v=>∃a vs,v=.ref a/\W.F a=some (.tup vs)/\Paired (LR K W) xs vs
 |.f kvs,v=>∃a o us,v=.ref a/\W.F a=some (.frz o (.dT us))/\Paired (fun p q=>p.1=q.1/\Rep K W.F p.2 q.2) kvs us
noncomputable abbrev bU(K:Fg)(W:Wd):List CD->List V->Prop:=Paired (cF K W)
noncomputable def NG(K:Fg)(W:Wd):Option CD->Option V->Prop
 |none,none=>True
 |some x,some v=>cF K W x v
 |_,_=>False
noncomputable abbrev cQ(K:Fg)(W:Wd):List (Option CD)->St->Prop:=Paired (NG K W)
noncomputable def aS(K:Fg)(nm:Str):Addr:=match PySem.W.nsIn K mainGlobals nm with
 |some (some (.ref C))=>C
 |_=>0
noncomputable def oQ(a:Addr)(c:Value)(dx:Option Addr)(fr:Bool)(h:Heap):Prop:=∃o vs,h.get? a=some o/\o.cls=c/\o.dict=dx/\o.data=.fields vs/\(fr=true->1<vs.size/\vs[1]?=some .none)
noncomputable def NY(K:Fg)(W:Wd)(dx:Option Addr)(fs:List (Str×CD)):Prop:=match dx with
 |none=>fs=[]
 |some d=>fs≠[]/\∃us,W.F d=some (.xd us)/\Paired (fun p q=>p.1=q.1/\cF K W p.2 q.2) fs us
noncomputable def UW(K:Fg)(W:Wd)(a:Addr):Cell->HO->Prop
 |.lst xs,.lst vs=>bU K W xs vs
 |.dk kvs,.dK us=>Paired (fun p q=>p.1=q.1/\cF K W p.2 q.2) kvs us
 |.dt kvs,.dT us=>Paired (fun p q=>p.1=q.1/\cF K W p.2 q.2) kvs us
 |.obj nm fs,.ins C _ us=>C=aS K nm/\Paired (fun p q=>p.1=q.1/\cF K W p.2 q.2) fs us
 |.exc fr nm fs,.ext φ=>∃dx,φ=oQ a (.ref (aS K nm)) dx fr/\NY K W dx fs
 |_,_=>False
structure Good(K:Fg)(W:Wd)(M:List Cell)(H:Hp):Prop where
 fh:jO W.F H
 n:W.n=M.length
 cs:∀i c,M[i]?=some c->c≠.dead->W.F (W.α i)=none/\∃o,H (W.α i)=some o/\UW K W (W.α i) c o
 inj:∀i j c c',M[i]?=some c->M[j]?=some c'->c≠.dead->c'≠.dead->W.α i=W.α j->i=j
section
variable{K:Fg}{W W':Wd}{M M':List Cell}{H H':Hp}
theorem LR.up{x:PyData ⊕ Nat}{v:V}(h:LR K W x v)(e:W.Ext W'):LR K W' x v:=by
 cases x with
 |inl x=>exact Rep.same e.ff _ _ h
 |inr i=>exact⟨B8 h.1 e.ln,by rw[e.al i h.1];exact h.2⟩
theorem cF.up{x:CD}{v:V}(h:cF K W x v)(e:W.Ext W'):cF K W' x v:=by
 cases x with
 |d x=>exact Rep.same e.ff _ _ h
 |c i=>exact⟨B8 h.1 e.ln,by rw[e.al i h.1];exact h.2⟩
 |t xs=>
  obtain⟨a,vs,h1,h2,h3⟩:=h;exact⟨a,vs,h1,e.ff _ _ h2,Paired.mapP h3 fun _ _ r=>LR.up r e⟩
 |f kvs=>
  obtain⟨a,o,us,h1,h2,h3⟩:=h;exact⟨a,o,us,h1,e.ff _ _ h2,Paired.mapP h3 fun _ _ r=>⟨r.1,Rep.same e.ff _ _ r.2⟩⟩
theorem bU.up{xs:List CD}{vs:List V}(h:bU K W xs vs)(e:W.Ext W'):bU K W' xs vs:=Paired.mapP h fun _ _ r=>cF.up r e
theorem cQ.up{γ:List (Option CD)}{σ:St}(h:cQ K W γ σ)(e:W.Ext W'):cQ K W' γ σ:=Paired.mapP h fun a b r=>by
 cases a<;>cases b
 .exact True.intro
 .exact False.elim r
 .exact False.elim r
 .exact cF.up r e
theorem NY.up{dx:Option Addr}{fs:List (Str×CD)}(h:NY K W dx fs)(e:W.Ext W'):NY K W' dx fs:=by
 cases dx with
 |none=>exact h
 |some d=>
  obtain⟨h0,us,h1,h2⟩:=h;exact⟨h0,us,e.ff _ _ h1,Paired.mapP h2 fun _ _ r=>⟨r.1,cF.up r.2 e⟩⟩
theorem UW.up{a:Addr}{c:Cell}{o:HO}(h:UW K W a c o)(e:W.Ext W'):UW K W' a c o:=by
 cases c<;>cases o<;>first|exact(let⟨dx,h1,h2⟩:=h;⟨dx,h1,h2.up e⟩)|exact False.elim h|exact bU.up h e|exact Paired.mapP h fun _ _ r=>⟨r.1,cF.up r.2 e⟩|exact⟨h.1,Paired.mapP h.2 fun _ _ r=>⟨r.1,cF.up r.2 e⟩⟩
theorem Good.lay(g:Good K W M H){p:Addr}{o:HO}(hp:H p=none):W.Ext { W with F:=upd W.F p o }/\Good K { W with F:=upd W.F p o } M (upd H p o):=by
 have fp:W.F p=none:=g.fh.free hp;have e:W.Ext { W with F:=upd W.F p o }:=⟨jO.upd fp,A7 _,fun _ _=>rfl⟩;refine⟨e,?_,g.n,fun i c hi hc=>?_,g.inj⟩
 .intro b u hb;have hb:upd W.F p o b=some u:=hb;by_cases q:b=p
  .subst q;rw[aR]at hb;rw[aR];exact hb
  .rw[aL q]at hb;rw[aL q];exact g.fh b u hb
 .obtain⟨h1,o',h2,h3⟩:=g.cs i c hi hc;have ne:W.α i≠p:=aQ h2 hp;exact⟨by show upd W.F p o (W.α i)=none;rw[aL ne];exact h1,o',by rw[aL ne];exact h2,h3.up e⟩
noncomputable def Wd.more(W:Wd)(p:Addr):Wd:={ W with α:=fun i=>if i=W.n then p else W.α i,n:=W.n+1 }
theorem Wd.ext_more(W:Wd)(p:Addr):W.Ext (W.more p):=⟨jO.refl _,Nat.le_succ _,fun i h=>A5 (B6 h)⟩
theorem Good.new(g:Good K W M H){p:Addr}{c:Cell}{o:HO}(hp:H p=none)(r:UW K W p c o):Good K (W.more p) (M++[c]) (upd H p o):=by
 have e:=W.ext_more p
 have at_:∀i c',(M++[c])[i]?=some c'->(i<M.length/\M[i]?=some c')\/(i=M.length/\c'=c):=fun i c' h=>by
  by_cases q:i<M.length
  .rw[C1 q]at h;exact .inl ⟨q,h⟩
  .rw[C6 (Nat.le_of_not_lt q)]at h
   have h':i-M.length=0:=by
    cases k:i-M.length with
    |zero=>rfl
    |succ m=>rw[k]at h;simp at h
   rw[h']at h;refine .inr ⟨by omega,?_⟩;simpa using h.symm
 have al:∀i,i<M.length->(W.more p).α i=W.α i:=fun i h=>e.al i (by rw[g.n];exact h);have an:(W.more p).α M.length=p:=by show(if M.length=W.n then p else _)=p;rw[A3 g.n.symm]
 have nep:∀i c',M[i]?=some c'->c'≠.dead->W.α i≠p:=fun i c' h hc=>by
  obtain⟨_,o',h2,_⟩:=g.cs i c' h hc;exact aQ h2 hp
 refine⟨?_,?_,fun i c' hi hc=>?_,fun i j c1 c2 hi hj d1 d2 he=>?_⟩
 .intro b u hb;have:=g.fh b u hb;rw[aL (aQ this hp)];exact this
 .show W.n+1=_;rw[g.n,A9];rfl
 .rcases at_ i c' hi with⟨q,h⟩|⟨rfl,rfl⟩
  .obtain⟨h1,o',h2,h3⟩:=g.cs i c' h hc;rw[al i q];exact⟨h1,o',by rw[aL (nep i c' h hc)];exact h2,h3.up e⟩
  .rw[an];exact⟨g.fh.free hp,o,aR,r.up e⟩
 .rcases at_ i c1 hi with⟨q,h⟩|⟨rfl,rfl⟩
  .rcases at_ j c2 hj with⟨q',h'⟩|⟨rfl,rfl⟩
   .rw[al i q,al j q']at he;exact g.inj i j c1 c2 h h' d1 d2 he
   .rw[al i q,an]at he;exact absurd he (nep i c1 h d1)
  .rcases at_ j c2 hj with⟨q',h'⟩|⟨rfl,rfl⟩
   .rw[an,al j q']at he;exact absurd he.symm (nep j c2 h' d2)
   .rfl
theorem Good.set(g:Good K W M H){i:Nat}{c c':Cell}{o':HO}(hi:M[i]?=some c)(hc:c≠.dead)(r:UW K W (W.α i) c' o'):Good K W (M.set i c') (upd H (W.α i) o'):=by
 obtain⟨h1,o,h2,h3⟩:=g.cs i c hi hc;have lt:i<M.length:=(List.getElem?_eq_some_iff.mp hi).1
 have at_:∀j d,(M.set i c')[j]?=some d->(j=i/\d=c')\/(j≠i/\M[j]?=some d):=fun j d h=>by
  by_cases q:i=j
  .subst q;rw[E3 lt]at h;exact .inl ⟨rfl,(D2 h).symm⟩
  .rw[D4 q]at h;exact .inr ⟨fun z=>q z.symm,h⟩
 refine⟨?_,by rw[g.n,U1],fun j d hj hd=>?_,fun j k d1 d2 hj hk e1 e2 he=>?_⟩
 .intro b u hb;rw[aL (aQ hb h1)];exact g.fh b u hb
 .rcases at_ j d hj with⟨rfl,rfl⟩|⟨q,h⟩
  .exact⟨h1,o',aR,r⟩
  .obtain⟨k1,u,k2,k3⟩:=g.cs j d h hd;have ne:W.α j≠W.α i:=fun z=>q (g.inj j i d c h hi hd hc z);exact⟨k1,u,by rw[aL ne];exact k2,k3⟩
 .rcases at_ j d1 hj with⟨rfl,rfl⟩|⟨q,h⟩<;>rcases at_ k d2 hk with⟨rfl,rfl⟩|⟨q',h'⟩
  .rfl
  .exact g.inj _ k c d2 hi h' hc e2 he
  .exact g.inj j _ d1 c h hi e1 hc he
  .exact g.inj j k d1 d2 h h' e1 e2 he
end
noncomputable abbrev Ga:=List (Option CD)
abbrev Sto:=List Cell
noncomputable abbrev EF:=Ga->Sto->Option (CD×Sto)
noncomputable abbrev TF:=Ga->Sto->Option (Bool×Sto)
noncomputable abbrev AF:=Ga->Sto->Option (List CD×Sto)
inductive Out where
 |nx (γ:Ga)|bk (γ:Ga)|ct (γ:Ga)|rt (x:CD)
noncomputable abbrev SF:=Ga->Sto->Option (Out×Sto)
noncomputable abbrev GF:=CD->Ga->Sto->Option (Ga×Sto)
noncomputable abbrev GsF:=List CD->Ga->Sto->Option (Ga×Sto)
noncomputable abbrev F1:=CD->Sto->Option (CD×Sto)
noncomputable abbrev F2:=CD->CD->Sto->Option (CD×Sto)
noncomputable abbrev FN:=List CD->Sto->Option (CD×Sto)
section
variable(K:Fg)
noncomputable def SE(t:TE)(f:EF):Prop:=∀γ M x M',f γ M=some (x,M')->∀(W:Wd)(H:Hp)(σ:St)(Q:VK),Good K W M H->cQ K W γ σ->(∀v W' H',W.Ext W'->Good K W' M' H'->cF K W' x v->Q v H')->t σ H Q
noncomputable def STt(t:TT)(f:TF):Prop:=∀γ M b M',f γ M=some (b,M')->∀(W:Wd)(H:Hp)(σ:St)(Q:Bool->Hp->Prop),Good K W M H->cQ K W γ σ->(∀W' H',W.Ext W'->Good K W' M' H'->Q b H')->t σ H Q
noncomputable def SA(t:TA)(f:AF):Prop:=∀γ M xs M',f γ M=some (xs,M')->∀(W:Wd)(H:Hp)(σ:St)(Q:List V->Hp->Prop),Good K W M H->cQ K W γ σ->(∀vs W' H',W.Ext W'->Good K W' M' H'->bU K W' xs vs->Q vs H')->t σ H Q
noncomputable def aAi(D:Ends)(W:Wd)(H:Hp):Out->Prop
 |.nx γ=>∀σ,cQ K W γ σ->D.nx σ H
 |.bk γ=>∀σ,cQ K W γ σ->D.bk σ H
 |.ct γ=>∀σ,cQ K W γ σ->D.ct σ H
 |.rt x=>∀v,cF K W x v->D.rt v H
noncomputable def SS(t:TS)(f:SF):Prop:=∀γ M o M',f γ M=some (o,M')->∀(W:Wd)(H:Hp)(σ:St)(D:Ends),Good K W M H->cQ K W γ σ->(∀W' H',W.Ext W'->Good K W' M' H'->aAi K D W' H' o)->t D σ H
noncomputable def SG(t:TG)(f:GF):Prop:=∀x γ M γ' M',f x γ M=some (γ',M')->∀(W:Wd)(H:Hp)(σ:St)(v:V)(Q:St->Hp->Prop),Good K W M H->cQ K W γ σ->cF K W x v->(∀σ' W' H',W.Ext W'->Good K W' M' H'->cQ K W' γ' σ'->Q σ' H')->t v σ H Q
noncomputable def SGs(t:TGs)(f:GsF):Prop:=∀xs γ M γ' M',f xs γ M=some (γ',M')->∀(W:Wd)(H:Hp)(σ:St)(vs:List V)(Q:St->Hp->Prop),Good K W M H->cQ K W γ σ->bU K W xs vs->(∀σ' W' H',W.Ext W'->Good K W' M' H'->cQ K W' γ' σ'->Q σ' H')->t vs σ H Q
noncomputable def P2(r:R2)(f:F2):Prop:=∀x y M z M',f x y M=some (z,M')->∀(W:Wd)(H:Hp)(v u:V)(Q:VK),Good K W M H->cF K W x v->cF K W y u->(∀w W' H',W.Ext W'->Good K W' M' H'->cF K W' z w->Q w H')->r v u H Q
noncomputable def P1(r:V->Hp->VK->Prop)(f:F1):Prop:=∀x M z M',f x M=some (z,M')->∀(W:Wd)(H:Hp)(v:V)(Q:VK),Good K W M H->cF K W x v->(∀w W' H',W.Ext W'->Good K W' M' H'->cF K W' z w->Q w H')->r v H Q
noncomputable def PN(r:List V->Hp->VK->Prop)(f:FN):Prop:=∀xs M z M',f xs M=some (z,M')->∀(W:Wd)(H:Hp)(vs:List V)(Q:VK),Good K W M H->bU K W xs vs->(∀w W' H',W.Ext W'->Good K W' M' H'->cF K W' z w->Q w H')->r vs H Q
noncomputable def spM(f:FN):Sp:=fun vs H Q _=>∃xs M W y M',Good K W M H/\bU K W xs vs/\f xs M=some (y,M')/\∀v W' H',W.Ext W'->Good K W' M' H'->cF K W' y v->Q v H'
end
noncomputable def aD(i:Nat):EF:=fun γ M=>match γ[i]? with
 |some (some x)=>some (x,M)
 |_=>none
noncomputable def fC(x:PyData):EF:=fun _ M=>some (.d x,M)
noncomputable def fOp(h:F2)(f g:EF):EF:=fun γ M=>(f γ M).bind fun r=>(g γ r.2).bind fun q=>h r.1 q.1 q.2
noncomputable def fUn(h:F1)(f:EF):EF:=fun γ M=>(f γ M).bind fun r=>h r.1 r.2
noncomputable def asB:CD->Option Bool
 |.d (.bool b)=>some b
 |_=>none
noncomputable def kD(f g:EF):EF:=fun γ M=>(f γ M).bind fun r=>(asB r.1).bind fun b=>if b=true then g γ r.2 else some (.d (.bool false),r.2)
noncomputable def fOr(f g:EF):EF:=fun γ M=>(f γ M).bind fun r=>(asB r.1).bind fun b=>if b=true then some (.d (.bool true),r.2)else g γ r.2
noncomputable def DX(f:EF):EF:=fun γ M=>(f γ M).bind fun r=>(asB r.1).bind fun b=>some (.d (.bool (!b)),r.2)
noncomputable def fIf(t:TF)(f g:EF):EF:=fun γ M=>(t γ M).bind fun r=>if r.1=true then f γ r.2 else g γ r.2
noncomputable def ZL(f g:TF):TF:=fun γ M=>(f γ M).bind fun r=>if r.1=true then g γ r.2 else some (false,r.2)
noncomputable def gOr(f g:TF):TF:=fun γ M=>(f γ M).bind fun r=>if r.1=true then some (true,r.2)else g γ r.2
noncomputable def pB(f:TF):TF:=fun γ M=>(f γ M).bind fun r=>some (!r.1,r.2)
noncomputable def gB(f:EF):TF:=fun γ M=>(f γ M).bind fun r=>(asB r.1).bind fun b=>some (b,r.2)
noncomputable def BR(h h':F2)(f g e:EF):EF:=fun γ M=>(f γ M).bind fun r=>(g γ r.2).bind fun q=>(h r.1 q.1 q.2).bind fun z=>(asB z.1).bind fun b=>if b=true then(e γ z.2).bind fun w=>h' q.1 w.1 w.2 else some (.d (.bool false),z.2)
noncomputable def aI:AF:=fun _ M=>some ([],M)
noncomputable def aB(f:EF)(g:AF):AF:=fun γ M=>(f γ M).bind fun r=>(g γ r.2).bind fun q=>some (r.1::q.1,q.2)
noncomputable def iQ:List CD->Option (List PyData)
 |[]=>some []
 |.d x::r=>(iQ r).map (x::·)
 |.c _::_=>none
 |.t _::_=>none
 |.f _::_=>none
noncomputable def cK(f:AF):EF:=fun γ M=>(f γ M).bind fun r=>(iQ r.1).bind fun ds=>if ds.length<=sizeLine then some (.d (.tuple ds),r.2)else none
noncomputable def lM(f:AF):EF:=fun γ M=>(f γ M).bind fun r=>(iQ r.1).bind fun ds=>if ds.length<=sizeLine then some (.d (.list ds),r.2)else none
noncomputable def wG(f:AF):EF:=fun γ M=>(f γ M).bind fun r=>if r.1.length<=sizeLine then some (.c r.2.length,r.2++[.lst r.1])else none
noncomputable def aK(h:FN)(f:AF):EF:=fun γ M=>(f γ M).bind fun r=>h r.1 r.2
noncomputable def cS:SF:=fun γ M=>some (.nx γ,M)
noncomputable def bO(f g:SF):SF:=fun γ M=>(f γ M).bind fun r=>match r.1 with
 |.nx γ'=>g γ' r.2
 |o=>some (o,r.2)
noncomputable def zX(f:EF):SF:=fun γ M=>(f γ M).bind fun r=>some (.nx γ,r.2)
noncomputable def cD(f:EF):SF:=fun γ M=>(f γ M).bind fun r=>some (.rt r.1,r.2)
noncomputable def aJs:SF:=fun _ M=>some (.rt (.d .none),M)
noncomputable def sIf(c:TF)(f g:SF):SF:=fun γ M=>(c γ M).bind fun r=>if r.1=true then f γ r.2 else g γ r.2
noncomputable def dA(f:EF)(g:GF):SF:=fun γ M=>(f γ M).bind fun r=>(g r.1 γ r.2).bind fun q=>some (.nx q.1,q.2)
noncomputable def hName(i:Nat):GF:=fun x γ M=>some (γ.set i (some x),M)
noncomputable def kO:GsF:=fun xs γ M=>match xs with
 |[]=>some (γ,M)
 |_=>none
noncomputable def bL(f:GF)(g:GsF):GsF:=fun xs γ M=>match xs with
 |x::r=>(f x γ M).bind fun q=>g r q.1 q.2
 |[]=>none
noncomputable def qP(n:Nat)(g:GsF):GF:=fun x γ M=>match x with
 |.d (.tuple ds)=>if ds.length=n then g (ds.map .d) γ M else none
 |.t xs=>if xs.length=n then g (xs.map cdA) γ M else none
 |_=>none
noncomputable abbrev F3:=CD->CD->CD->Sto->Option Sto
noncomputable def hSub(fo fi:EF)(s:F3):GF:=fun x γ M=>(fo γ M).bind fun r=>(fi γ r.2).bind fun q=>(s r.1 q.1 x q.2).bind fun M'=>some (γ,M')
noncomputable def LN(i j:Nat)(f:AF):SF:=fun γ M=>(f γ M).bind fun r=>match r.1 with
 |[x,y]=>some (.nx ((γ.set i (some x)).set j (some y)),r.2)
 |_=>none
noncomputable def kZ(g:GF)(b:SF):List CD->Ga->Sto->Option (Out×Sto)
 |[],γ,M=>some (.nx γ,M)
 |x::xs,γ,M=>(g x γ M).bind fun r=>(b r.1 r.2).bind fun q=>match q.1 with
  |.nx γ'=>kZ g b xs γ' q.2
  |.ct γ'=>kZ g b xs γ' q.2
  |.bk γ'=>some (.nx γ',q.2)
  |.rt x=>some (.rt x,q.2)
noncomputable def uC(f:AF)(g:GF)(b:SF):SF:=fun γ M=>(f γ M).bind fun r=>kZ g b r.1 γ r.2
noncomputable def gR(c:TF)(b:SF):Nat->Ga->Sto->Option (Out×Sto)
 |0,_,_=>none
 |n+1,γ,M=>(c γ M).bind fun r=>if r.1=true then(b γ r.2).bind fun q=>match q.1 with
  |.nx γ'=>gR c b n γ' q.2
  |.ct γ'=>gR c b n γ' q.2
  |.bk γ'=>some (.nx γ',q.2)
  |.rt x=>some (.rt x,q.2)else some (.nx γ,r.2)
open Classical in
noncomputable def vN(c:TF)(b:SF):SF:=fun γ M=>if h:∃n,(gR c b n γ M).isSome=true then gR c b h.choose γ M else none
noncomputable def lcF(g:GF)(c:TF)(e:EF):List CD->Ga->Sto->Option (List CD×Sto)
 |[],γ,M=>some ([],M)
 |x::xs,γ,M=>(g x γ M).bind fun a=>(c a.1 a.2).bind fun b=>if b.1=true then(e a.1 b.2).bind fun r=>(lcF g c e xs a.1 r.2).bind fun q=>some (r.1::q.1,q.2)else lcF g c e xs a.1 b.2
noncomputable def sM(cap:List (Option Nat))(γ:Ga):Ga:=cap.map fun o=>o.bind fun j=>(γ[j]?).join
noncomputable def iD:TF:=fun _ M=>some (true,M)
noncomputable def pE(cap:List (Option Nat))(f:AF)(g:GF)(c:TF)(e:EF):AF:=fun γ M=>(f γ M).bind fun r=>if r.1.length<=sizeLine then lcF g c e r.1 (sM cap γ) r.2 else none
noncomputable def fLc(cap:List (Option Nat))(f:AF)(g:GF)(c:TF)(e:EF):EF:=lM (pE cap f g c e)
noncomputable def WK(cap:List (Option Nat))(f:AF)(g:GF)(c:TF)(e:EF):EF:=wG (pE cap f g c e)
noncomputable def fnF(ps N:Nat)(b:SF):FN:=fun xs M=>if xs.length=ps then(b (xs.map some++List.replicate (N-xs.length) none) M).bind fun r=>match r.1 with
 |.rt x=>some (x,r.2)
 |.nx _=>some (.d .none,r.2)
 |_=>none else none
theorem aG{α β:Type}{o:Option α}{k:α->Option β}{r:β}(h:o.bind k=some r):∃a,o=some a/\k a=some r:=by
 cases o with
 |none=>cases h
 |some a=>exact⟨a,rfl,h⟩
theorem Paired.get{α β:Type}{R:α->β->Prop}:∀{xs:List α}{ys:List β}{i:Nat}{x:α},Paired R xs ys->xs[i]?=some x->∃y,ys[i]?=some y/\R x y
 |_,_,_,_,.nil=>fun e=>by simp at e
 |_,_,0,_,.cons r _=>fun e=>by simp at e;subst e;exact⟨_,rfl,r⟩
 |_,_,i+1,x,.cons _ t=>fun e=>by
  obtain⟨u,h1,h2⟩:=Paired.get (i:=i) (x:=x) t (by simpa using e);exact⟨u,by simpa using h1,h2⟩
theorem Paired.set{α β:Type}{R:α->β->Prop}{x:α}{y:β}(r:R x y):∀{xs:List α}{ys:List β}(i:Nat),Paired R xs ys->Paired R (xs.set i x) (ys.set i y)
 |_,_,_,.nil=>.nil
 |_,_,0,.cons _ t=>.cons r t
 |_,_,i+1,.cons q t=>.cons q (Paired.set r i t)
theorem Paired.app{α β:Type}{R:α->β->Prop}:∀{xs xs':List α}{ys ys':List β},Paired R xs ys->Paired R xs' ys'->Paired R (xs++xs') (ys++ys')
 |_,_,_,_,.nil=>fun s=>s
 |_,_,_,_,.cons r t=>fun s=>.cons r (Paired.app t s)
theorem Paired.len{α β:Type}{R:α->β->Prop}{xs:List α}{ys:List β}(p:Paired R xs ys):xs.length=ys.length:=Y9 p
section
variable{K:Fg}
theorem dO{W:Wd}:∀{xs:List CD}{ds:List PyData}{vs:List V},iQ xs=some ds->bU K W xs vs->aJ K W.F ds vs
 |[],ds,vs=>fun e h=>by
  cases e;cases h;rfl
 |.c _::_,ds,vs=>fun e h=>by cases e
 |.t _::_,ds,vs=>fun e h=>by cases e
 |.f _::_,ds,vs=>fun e h=>by cases e
 |.d x::r,ds,vs=>fun e h=>by
  cases h with
  |@cons _ v _ vs' h1 h2=>
   unfold iQ at e;cases q:iQ r with
   |none=>rw[q]at e;cases e
   |some es=>
    rw[q]at e;cases e;exact⟨v,vs',rfl,h1,dO q h2⟩
theorem RV{xs:List (PyData ⊕ Nat)}{vs:List V}(h:Paired (LR K W) xs vs):bU K W (xs.map cdA) vs:=by
 induction h with
 |nil=>exact .nil
 |@cons x v _ _ r _ ih=>exact .cons (by cases x<;>exact r) ih
theorem kN{W:Wd}:∀{ds:List PyData}{vs:List V},aJ K W.F ds vs->bU K W (ds.map .d) vs
 |[],vs=>fun h=>by rw[show vs=[]from h];exact .nil
 |d::ds,vs=>fun h=>by
  obtain⟨v,r,rfl,h1,h2⟩:=h;exact .cons h1 (kN h2)
theorem BC:∀{xs:List CD}{ds:List PyData},iQ xs=some ds->ds.length=xs.length
 |[],ds=>fun e=>by cases e;rfl
 |.c _::_,ds=>fun e=>by cases e
 |.t _::_,ds=>fun e=>by cases e
 |.f _::_,ds=>fun e=>by cases e
 |.d x::r,ds=>fun e=>by
  unfold iQ at e;cases q:iQ r with
  |none=>rw[q]at e;cases e
  |some es=>
   rw[q]at e;cases e;rw[C0,C0,BC q]
theorem aIm{i:Nat}:SE K (aKb i) (aD i):=by
 intro γ M x M' h W H σ Q g r k;unfold aD at h;cases e:γ[i]? with
 |none=>rw[e]at h;cases h
 |some o=>
  cases o with
  |none=>rw[e]at h;cases h
  |some y=>
   rw[e]at h;cases h;obtain⟨v,hv,rv⟩:=Paired.get r e;cases v with
   |none=>exact False.elim rv
   |some v=>exact⟨v,hv,k v W H (.refl _) g rv⟩
theorem ZX{i:Int}:SE K (tC (.int i)) (fC (.int i)):=by
 intro γ M x M' h W H σ Q g r k;cases h;exact k _ W H (.refl _) g rfl
theorem aIZ{b:Bool}:SE K (tC (.bl b)) (fC (.bool b)):=by
 intro γ M x M' h W H σ Q g r k;cases h;exact k _ W H (.refl _) g rfl
theorem aGi:SE K (tC .non) (fC .none):=by
 intro γ M x M' h W H σ Q g r k;cases h;exact k _ W H (.refl _) g rfl
theorem aGe{x:Str}:SE K (tC (.str x)) (fC (.str x)):=by
 intro γ M x M' h W H σ Q g r k;cases h;exact k _ W H (.refl _) g rfl
variable{ta tb tc:TE}{f g e:EF}{tt uu:TT}{ft gt:TF}{tA:TA}{fa:AF}
theorem UI{r:R2}{h:F2}(p:P2 K r h)(a:SE K ta f)(b:SE K tb g):SE K (tOp r ta tb) (fOp h f g):=by
 sleep 0;sleep 3;obtain⟨⟨z,M2⟩,h2,hh⟩:=aG hh;sleep 1;refine b _ _ _ _ h2 W1 H1 σ _ G1 (R.up e1) fun u W2 H2 e2 G2 r2=>?_;exact p _ _ _ _ _ hh W2 H2 v u Q G2 (r1.up e2) r2 fun w W3 H3 e3 G3 r3=>k w W3 H3 ((e1.trans e2).trans e3) G3 r3
theorem aJN{r:V->Hp->VK->Prop}{h:F1}(p:P1 K r h)(a:SE K ta f):SE K (tUn r ta) (fUn h f):=by
 sleep 0;sleep 3;sleep 1;exact p _ _ _ _ hh W1 H1 v Q G1 r1 fun w W3 H3 e3 G3 r3=>k w W3 H3 (e1.trans e3) G3 r3
theorem CL{x:CD}{b:Bool}(h:asB x=some b):x=.d (.bool b):=by
 cases x with
 |c n=>cases h
 |t n=>cases h
 |f n=>cases h
 |d x=>cases x<;>first|cases h;rfl|cases h
theorem aHS(a:SE K ta f)(b:SE K tb g):SE K (aFF ta tb) (kD f g):=by
 sleep 0;sleep 3;obtain⟨c,h2,hh⟩:=aG hh;sleep 1;have hy:y=_:=CL h2;subst hy;refine⟨c,r1,?_⟩;cases c with
 |true=>rw[A3 rfl];rw[A3 rfl]at hh;exact b _ _ _ _ hh W1 H1 σ Q G1 (R.up e1) fun w W3 H3 e3 G3 r3=>k w W3 H3 (e1.trans e3) G3 r3
 |false=>
  rw[A5 A4];rw[A5 A4]at hh;cases hh;exact k _ W1 H1 e1 G1 rfl
theorem aJY(a:SE K ta f)(b:SE K tb g):SE K (aJI ta tb) (fOr f g):=by
 sleep 0;sleep 3;obtain⟨c,h2,hh⟩:=aG hh;sleep 1;have hy:y=_:=CL h2;subst hy;refine⟨c,r1,?_⟩;cases c with
 |true=>
  rw[A3 rfl];rw[A3 rfl]at hh;cases hh;exact k _ W1 H1 e1 G1 rfl
 |false=>rw[A5 A4];rw[A5 A4]at hh;exact b _ _ _ _ hh W1 H1 σ Q G1 (R.up e1) fun w W3 H3 e3 G3 r3=>k w W3 H3 (e1.trans e3) G3 r3
theorem aFT(a:SE K ta f):SE K (aEZ ta) (DX f):=by
 sleep 0;sleep 3;obtain⟨c,h2,hh⟩:=aG hh;sleep 1;have hy:y=_:=CL h2;subst hy;cases hh;exact⟨c,r1,k _ W1 H1 e1 G1 rfl⟩
theorem aJk(t:STt K tt ft)(a:SE K ta f)(b:SE K tb g):SE K (tIf tt ta tb) (fIf ft f g):=by
 sleep 0;obtain⟨⟨c,M1⟩,h1,hh⟩:=aG hh;refine t _ _ _ _ h1 W H σ _ G R fun W1 H1 e1 G1=>?_;cases c with
 |true=>rw[A3 rfl];rw[A3 rfl]at hh;exact a _ _ _ _ hh W1 H1 σ Q G1 (R.up e1) fun w W3 H3 e3 G3 r3=>k w W3 H3 (e1.trans e3) G3 r3
 |false=>rw[A5 A4];rw[A5 A4]at hh;exact b _ _ _ _ hh W1 H1 σ Q G1 (R.up e1) fun w W3 H3 e3 G3 r3=>k w W3 H3 (e1.trans e3) G3 r3
theorem aBr{r r':R2}{h h':F2}(p:P2 K r h)(p':P2 K r' h')(a:SE K ta f)(b:SE K tb g)(c:SE K tc e):SE K (aBa r r' ta tb tc) (BR h h' f g e):=by
 sleep 0;sleep 3;obtain⟨⟨z,M2⟩,h2,hh⟩:=aG hh;obtain⟨⟨w,M3⟩,h3,hh⟩:=aG hh;obtain⟨q,h4,hh⟩:=aG hh;sleep 1;refine b _ _ _ _ h2 W1 H1 σ _ G1 (R.up e1) fun u W2 H2 e2 G2 r2=>?_;refine p _ _ _ _ _ h3 W2 H2 v u _ G2 (r1.up e2) r2 fun t W3 H3 e3 G3 r3=>?_;have hy:w=_:=CL h4;subst hy;refine⟨q,r3,?_⟩;have e13:=(e1.trans e2).trans e3;cases q with
 |true=>
  rw[A3 rfl];rw[A3 rfl]at hh;obtain⟨⟨m,M4⟩,h5,hh⟩:=aG hh;refine c _ _ _ _ h5 W3 H3 σ _ G3 (R.up e13) fun o W4 H4 e4 G4 r4=>?_;exact p' _ _ _ _ _ hh W4 H4 u o Q G4 (r2.up (e3.trans e4)) r4 fun w W5 H5 e5 G5 r5=>k w W5 H5 ((e13.trans e4).trans e5) G5 r5
 |false=>
  rw[A5 A4];rw[A5 A4]at hh;cases hh;exact k _ W3 H3 e13 G3 rfl
theorem aGJ(a:STt K tt ft)(b:STt K uu gt):STt K (aJW tt uu) (ZL ft gt):=by
 sleep 0;obtain⟨⟨c,M1⟩,h1,hh⟩:=aG hh;sleep 9;cases c with
 |true=>rw[A3 rfl];rw[A3 rfl]at hh;exact b _ _ _ _ hh W1 H1 σ Q G1 (R.up e1) fun W3 H3 e3 G3=>k W3 H3 (e1.trans e3) G3
 |false=>rw[A5 A4];rw[A5 A4]at hh;cases hh;exact k W1 H1 e1 G1
theorem aKl(a:STt K tt ft)(b:STt K uu gt):STt K (tOr tt uu) (gOr ft gt):=by
 sleep 0;obtain⟨⟨c,M1⟩,h1,hh⟩:=aG hh;sleep 9;cases c with
 |true=>rw[A3 rfl];rw[A3 rfl]at hh;cases hh;exact k W1 H1 e1 G1
 |false=>rw[A5 A4];rw[A5 A4]at hh;exact b _ _ _ _ hh W1 H1 σ Q G1 (R.up e1) fun W3 H3 e3 G3=>k W3 H3 (e1.trans e3) G3
theorem aGD(a:STt K tt ft):STt K (aKh tt) (pB ft):=by
 sleep 0;obtain⟨⟨c,M1⟩,h1,hh⟩:=aG hh;cases hh;exact a _ _ _ _ h1 W H σ _ G R fun W1 H1 e1 G1=>k W1 H1 e1 G1
theorem aGf(a:SE K ta f):STt K (tB ta) (gB f):=by
 sleep 0;sleep 3;obtain⟨c,h2,hh⟩:=aG hh;sleep 1;have hy:y=_:=CL h2;subst hy;cases hh;exact⟨_,r1,k W1 H1 e1 G1⟩
theorem aDm(a:SE K ta f):STt K (aFh ta) (gB f):=aGf a
theorem aHC:SA K QX aI:=by
 sleep 0;cases hh;exact k [] W H (.refl _) G .nil
theorem aDT(a:SE K ta f)(b:SA K tA fa):SA K (pH ta tA) (aB f fa):=by
 sleep 0;sleep 3;obtain⟨⟨ys,M2⟩,h2,hh⟩:=aG hh;cases hh;sleep 1;exact b _ _ _ _ h2 W1 H1 σ _ G1 (R.up e1) fun vs W2 H2 e2 G2 r2=>k _ W2 H2 (e1.trans e2) G2 (.cons (r1.up e2) r2)
theorem aGb(b:SA K tA fa):SE K (VS tA) (cK fa):=by
 sleep 0;sleep 6;obtain⟨ds,h2,hh⟩:=aG hh;by_cases hl:ds.length<=sizeLine
 .rw[A3 hl]at hh;cases hh;sleep 8;have ra:=dO h2 r1;refine⟨by rw[<- ra.length];exact hl,fun p hp=>?_⟩;obtain⟨e2,G2⟩:=G1.lay (o:=.tup vs) hp;exact k _ _ _ (e1.trans e2) G2 ⟨p,vs,rfl,SqT.of aR,aJ.same e2.ff _ _ ra⟩
 .rw[A5 hl]at hh;cases hh
theorem aGR(b:SA K tA fa):SE K (aHZ tA) (lM fa):=by
 sleep 0;sleep 6;obtain⟨ds,h2,hh⟩:=aG hh;by_cases hl:ds.length<=sizeLine
 .rw[A3 hl]at hh;cases hh;sleep 8;have ra:=dO h2 r1;refine⟨by rw[<- ra.length];exact hl,fun p hp=>?_⟩;obtain⟨e2,G2⟩:=G1.lay (o:=.lst vs) hp;exact k _ _ _ (e1.trans e2) G2 ⟨p,vs,rfl,SqL.of aR,aJ.same e2.ff _ _ ra⟩
 .rw[A5 hl]at hh;cases hh
theorem Good.newV(g:Good K W M H){p:Addr}:cF K (W.more p) (.c M.length) (.ref p):=by
 refine⟨?_,?_⟩
 .show M.length<W.n+1;rw[g.n];exact F5 _
 .show V.ref p=.ref (if M.length=W.n then p else W.α M.length);rw[A3 g.n.symm]
theorem aHx(b:SA K tA fa):SE K (aHZ tA) (wG fa):=by
 sleep 0;sleep 6;by_cases hl:ys.length<=sizeLine
 .have hh:(if ys.length<=sizeLine then some (CD.c M1.length,M1++[Cell.lst ys])else none)=some (x,M'):=hh;rw[A3 hl]at hh;cases hh;sleep 8;refine⟨by rw[<- Paired.len r1];exact hl,fun p hp=>?_⟩;exact k _ _ _ (e1.trans (W1.ext_more p)) (G1.new hp (c:=.lst ys) (o:=.lst vs) r1) G1.newV
 .have hh:(if ys.length<=sizeLine then some (CD.c M1.length,M1++[Cell.lst ys])else none)=some (x,M'):=hh;rw[A5 hl]at hh;cases hh
theorem aEa{h:FN}(b:SA K tA fa):SE K (aBc (spM K h) [] E0 tA) (aK h fa):=by
 sleep 0;sleep 6;sleep 8;rw[C5];exact⟨ys,M1,W1,x,M',G1,r1,hh,fun v W2 H2 e2 G2 r2=>k v W2 H2 (e1.trans e2) G2 r2⟩
theorem aFk{r:List V->Hp->VK->Prop}{h:FN}(p:PN K r h)(b:SA K tA fa):SE K (tCB r tA) (aK h fa):=by
 sleep 0;sleep 6;sleep 8;exact p _ _ _ _ hh W1 H1 vs Q G1 r1 fun v W2 H2 e2 G2 r2=>k v W2 H2 (e1.trans e2) G2 r2
end
section
variable{K:Fg}{ta tb tc:TE}{f g e:EF}{tt uu:TT}{ft gt:TF}{tA:TA}{fa:AF}{t u:TS}{p q:SF}{tg:TG}{hg:GF}{tgs:TGs}{hgs:GsF}
theorem aDH:SS K aFl cS:=by
 sleep 5;cases hh;exact k W H (.refl _) G σ R
theorem aFL(a:SS K t p)(b:SS K u q):SS K (aHr t u) (bO p q):=by
 sleep 5;obtain⟨⟨o1,M1⟩,h1,hh⟩:=aG hh;sleep 9;cases o1 with
 |nx γ1=>
  intro σ1 R1;exact b _ _ _ _ hh W1 H1 σ1 D G1 R1 fun W2 H2 e2 G2=>k W2 H2 (e1.trans e2) G2
 |bk γ1=>cases hh;exact k W1 H1 e1 G1
 |ct γ1=>cases hh;exact k W1 H1 e1 G1
 |rt x=>cases hh;exact k W1 H1 e1 G1
theorem aDI(a:SE K ta f):SS K (aFx ta) (zX f):=by
 sleep 5;sleep 3;cases hh;exact a _ _ _ _ h1 W H σ _ G R fun v W1 H1 e1 G1 r1=>k W1 H1 e1 G1 σ (R.up e1)
theorem aFZ(a:SE K ta f):SS K (aGn ta) (cD f):=by
 sleep 5;sleep 3;cases hh;exact a _ _ _ _ h1 W H σ _ G R fun v W1 H1 e1 G1 r1=>k W1 H1 e1 G1 v r1
theorem aJZ(c:STt K tt ft)(a:SS K t p)(b:SS K u q):SS K (aIB tt t u) (sIf ft p q):=by
 sleep 5;obtain⟨⟨c1,M1⟩,h1,hh⟩:=aG hh;refine c _ _ _ _ h1 W H σ _ G R fun W1 H1 e1 G1=>?_;cases c1 with
 |true=>rw[A3 rfl];rw[A3 rfl]at hh;exact a _ _ _ _ hh W1 H1 σ D G1 (R.up e1) fun W3 H3 e3 G3=>k W3 H3 (e1.trans e3) G3
 |false=>rw[A5 A4];rw[A5 A4]at hh;exact b _ _ _ _ hh W1 H1 σ D G1 (R.up e1) fun W3 H3 e3 G3=>k W3 H3 (e1.trans e3) G3
theorem PF(a:SE K ta f)(b:SG K tg hg):SS K (aCu ta tg) (dA f hg):=by
 sleep 5;sleep 3;obtain⟨⟨γ1,M2⟩,h2,hh⟩:=aG hh;cases hh;sleep 1;exact b _ _ _ _ _ h2 W1 H1 σ v _ G1 (R.up e1) r1 fun σ' W2 H2 e2 G2 R2=>k W2 H2 (e1.trans e2) G2 σ' R2
theorem cQ.set{σ:St}{x:CD}{v:V}(R:cQ K W γ σ)(i:Nat)(r:cF K W x v):cQ K W (γ.set i (some x)) (σ.set i (some v)):=Paired.set (R:=NG K W) (show NG K W (some x) (some v)from r) i R
theorem AW{i:Nat}:SG K (OI i) (hName i):=by
 intro x γ M γ' M' hh W H σ v Q G R r k;cases hh;exact k _ W H (.refl _) G (cQ.set R i r)
theorem aEN:SGs K aJC kO:=by
 intro xs γ M γ' M' hh W H σ vs Q G R r k;cases r with
 |nil=>cases hh;exact⟨rfl,k σ W H (.refl _) G R⟩
 |cons _ _=>cases hh
theorem ZH(a:SG K tg hg)(b:SGs K tgs hgs):SGs K (aFn tg tgs) (bL hg hgs):=by
 intro xs γ M γ' M' hh W H σ vs Q G R r k;cases r with
 |nil=>cases hh
 |@cons x v xs vs r1 r2=>
  obtain⟨⟨γ1,M1⟩,h1,hh⟩:=aG (show(hg x γ M).bind _=_ from hh);refine⟨v,vs,rfl,a _ _ _ _ _ h1 W H σ v _ G R r1 fun σ1 W1 H1 e1 G1 R1=>?_⟩;exact b _ _ _ _ _ hh W1 H1 σ1 vs _ G1 R1 (bU.up r2 e1) fun σ2 W2 H2 e2 G2 R2=>k σ2 W2 H2 (e1.trans e2) G2 R2
theorem aHD{n:Nat}(b:SGs K tgs hgs):SG K (aAe K n tgs) (qP n hgs):=by
 intro x γ M γ' M' hh W H σ v Q G R r k;cases x with
 |c _=>cases hh
 |f _=>cases hh
 |t xs=>
  have hh:(if xs.length=n then hgs (xs.map cdA) γ M else none)=some (γ',M'):=hh;by_cases hl:xs.length=n
  .rw[A3 hl]at hh;obtain⟨a,vs,rfl,h2,h3⟩:=r;have hp:=RV h3;exact⟨a,vs,rfl,SqT.of (G.fh _ _ h2),by rw[<- hl];simpa using(Paired.len h3).symm,b _ _ _ _ _ hh W H σ vs Q G R hp k⟩
  .rw[A5 hl]at hh;cases hh
 |d x=>
  cases x with
  |tuple ds=>
   have hh:(if ds.length=n then hgs (ds.map .d) γ M else none)=some (γ',M'):=hh;by_cases hl:ds.length=n
   .rw[A3 hl]at hh;obtain⟨a,vs,rfl,h2,h3⟩:=(show ∃a vs,v=.ref a/\SqT K W.F a vs/\aJ K W.F ds vs from r);exact⟨a,vs,rfl,G.fh.seqT h2,by rw[<- h3.length];exact hl,b _ _ _ _ _ hh W H σ vs Q G R (kN h3) k⟩
   .rw[A5 hl]at hh;cases hh
  |_=>cases hh
noncomputable def P3(K:Fg)(r:V->V->V->Hp->(Hp->Prop)->Prop)(f:F3):Prop:=∀x y z M M',f x y z M=some M'->∀(W:Wd)(H:Hp)(v u w:V)(Q:Hp->Prop),Good K W M H->cF K W x v->cF K W y u->cF K W z w->(∀W' H',W.Ext W'->Good K W' M' H'->Q H')->r v u w H Q
theorem aIp{r:aCU}{s:F3}(p:P3 K r s)(a:SE K ta f)(b:SE K tb g):SG K (aJX ta tb r) (hSub f g s):=by
 intro x γ M γ' M' hh W H σ v Q G R rv k;obtain⟨⟨o,M1⟩,h1,hh⟩:=aG hh;obtain⟨⟨i,M2⟩,h2,hh⟩:=aG hh;obtain⟨M3,h3,hh⟩:=aG hh;cases hh;refine a _ _ _ _ h1 W H σ _ G R fun v1 W1 H1 e1 G1 r1=>?_;refine b _ _ _ _ h2 W1 H1 σ _ G1 (R.up e1) fun v2 W2 H2 e2 G2 r2=>?_;exact p _ _ _ _ _ h3 W2 H2 v1 v2 v _ G2 (r1.up e2) r2 (rv.up (e1.trans e2)) fun W3 H3 e3 G3=>k σ W3 H3 ((e1.trans e2).trans e3) G3 (R.up ((e1.trans e2).trans e3))
theorem aGl{i j:Nat}(b:SA K tA fa):SS K (aKd i j tA) (LN i j fa):=by
 sleep 5;sleep 6;sleep 8;rcases r1 with _|⟨a1,_|⟨a2,_|_⟩⟩
 .cases hh
 .cases hh
 .cases hh;exact⟨_,_,rfl,k W1 H1 e1 G1 _ (cQ.set (cQ.set (R.up e1) i a1) j a2)⟩
 .cases hh
noncomputable def QO(K:Fg)(J:It)(xs:List CD)(W:Wd):Prop:=∀W' M' H',W.Ext W'->Good K W' M' H'->
 (∀i x,xs[i]?=some x->J.go i H'/\∀y H'',J.yld i H' y H''->∃W'',W'.Ext W''/\Good K W'' M' H''/\cF K W'' x y)/\J.stop xs.length H'
noncomputable def SI(K:Fg)(wi:TI)(f:AF):Prop:=∀γ M xs M',f γ M=some (xs,M')->∀(W:Wd)(H:Hp)(σ:St)(R:It->Hp->Prop),Good K W M H->cQ K W γ σ->(∀J W' H',W.Ext W'->Good K W' M' H'->QO K J xs W'->R J H')->wi σ H R
noncomputable def cP(f:EF):AF:=fun γ M=>(f γ M).bind fun r=>match r.1 with
 |.d x=>(aW x).bind fun ds=>some (ds.map .d,r.2)
 |_=>none
theorem aHl(a:SE K ta f):SI K (aDb K ta) (cP f):=by
 intro γ M xs M' hh W H σ R G Rs k;sleep 3;cases y with
 |c _=>cases hh
 |t _=>cases hh
 |f _=>cases hh
 |d y=>
  obtain⟨ds,h2,hh⟩:=aG (show(aW y).bind _=_ from hh);cases hh;refine a _ _ _ _ h1 W H σ _ G Rs fun v W1 H1 e1 G1 r1=>?_;obtain⟨p,vs,rfl,hs,hr⟩:=jT (show Rep K W1.F y v from r1) h2;refine⟨p,rfl,?_⟩
  have item:∀(i:Nat)(x:CD)(W2:Wd),W1.Ext W2->(ds.map CD.d)[i]?=some x->∃u,vs[i]?=some u/\cF K W2 x u:=fun i x W2 e2 hx=>by
   obtain⟨u,hu,ru⟩:=Paired.get (kN hr) hx;exact⟨u,hu,ru.up e2⟩
  have hlen:(ds.map CD.d).length=vs.length:=by rw[A8];exact hr.length
  rcases hs with hs|hs
  .refine .inl ⟨vs,G1.fh.seq hs,k _ W1 H1 e1 G1 fun W2 M2 H2 e2 G2=>?_⟩;have hs2:SqL K H2 p vs:=G2.fh.seq (e2.ff.seq hs);refine⟨fun i x hx=>?_,?_⟩
   .obtain⟨u,hu,ru⟩:=item i x W2 e2 hx;refine⟨⟨vs,u,hs2,hu⟩,fun y' H'' hy=>⟨W2,.refl _,by rw[hy.1];exact G2,?_⟩⟩;have:=hy.2 vs hs2;rw[hu]at this;cases this;exact ru
   .rw[hlen];exact⟨vs,hs2,A7 _⟩
  .refine .inr ⟨vs,G1.fh.seqT hs,k _ W1 H1 e1 G1 fun W2 M2 H2 e2 G2=>?_⟩;have hs2:SqT K H2 p vs:=G2.fh.seqT (e2.ff.seqT hs);refine⟨fun i x hx=>?_,?_⟩
   .obtain⟨u,hu,ru⟩:=item i x W2 e2 hx;refine⟨⟨vs,u,hs2,hu⟩,fun y' H'' hy=>⟨W2,.refl _,by rw[hy.1];exact G2,?_⟩⟩;have:=hy.2 vs hs2;rw[hu]at this;cases this;exact ru
   .rw[hlen];exact⟨vs,hs2,A7 _⟩
noncomputable def jP(lo:Int)(n:Nat):List CD:=(List.range n).map fun i=>.d (.int (lo+(i:Nat)))
theorem OM{lo:Int}{n i:Nat}{x:CD}(h:(jP lo n)[i]?=some x):i<n/\x=.d (.int (lo+i)):=by
 unfold jP at h;rw[D5]at h;by_cases hi:i<n
 .rw[List.getElem?_range hi]at h;exact⟨hi,(D2 h).symm⟩
 .rw[List.getElem?_eq_none_iff.mpr (by simpa using hi)]at h;cases h
noncomputable def fV(i:Int):Bool:=decide (-(2 ^ 62)<=i)&&decide (i<2 ^ 62)
noncomputable def kH(f:AF):AF:=fun γ M=>(f γ M).bind fun r=>match r.1 with
 |[.d (.int j)]=>if fV j=true then some (jP 0 j.toNat,r.2)else none
 |_=>none
theorem VD{lo:Int}{n:Nat}:QO K (Itr lo n) (jP lo n) W:=fun W' M' H' e G=>
 ⟨fun i x hx=>⟨(OM hx).1,fun y H'' hy=>⟨W',.refl _,by rw[hy.1];exact G,by rw[(OM hx).2];exact hy.2⟩⟩,by show n<=_;simp[jP]⟩
theorem DJ{i:Int}(h:fV i=true):-(2 ^ 62)<=i/\i<2 ^ 62:=by
 unfold fV at h;rw[B4]at h;exact⟨C3 h.1,C3 h.2⟩
theorem aEH(b:SA K tA fa):SI K (aFj tA) (kH fa):=by
 intro γ M xs M' hh W H σ R G Rs k;sleep 6;refine b _ _ _ _ h1 W H σ _ G Rs fun vs W1 H1 e1 G1 r1=>?_;revert hh;dsimp only;split
 .rename_i j;intro hh;by_cases hs:fV j=true
  .rw[A3 hs]at hh;cases hh;cases r1 with
   |cons r r'=>
    cases r';exact⟨j,by rw[show _=V.int j from r],(DJ hs).1,(DJ hs).2,k _ W1 H1 e1 G1 VD⟩
  .rw[A5 hs]at hh;cases hh
 .intro hh;cases hh
theorem aGQ{wi:TI}(i:SI K wi fa)(a:SG K tg hg)(b:SS K t p):SS K (aDV wi tg t) (uC fa hg p):=by
 sleep 5;obtain⟨⟨xs,M1⟩,h1,hh⟩:=aG hh;have hh:kZ hg p xs γ M1=some (o,M'):=hh;refine i _ _ _ _ h1 W H σ _ G R fun J W1 H1 e1 G1 gv=>?_;refine⟨fun j m σ' H'=>∃γ' M2 W2,j<=xs.length/\m=xs.length-j/\W1.Ext W2/\Good K W2 M2 H'/\cQ K W2 γ' σ'/\kZ hg p (xs.drop j) γ' M2=some (o,M'),⟨_,γ,M1,W1,D6 _,rfl,.refl _,G1,R.up e1,hh⟩,?_⟩;rintro j m σ' H' ⟨γ',M2,W2,hj,rfl,e2,G2,R2,h2⟩;obtain⟨gv1,gv2⟩:=gv W2 M2 H' e2 G2;by_cases hlt:j<xs.length
 .obtain⟨go,yl⟩:=gv1 j xs[j] (B5 hlt);rw[F9 hlt]at h2;refine .inr ⟨go,fun σ3 H3=>∃γ3 M3 W3,W2.Ext W3/\Good K W3 M3 H3/\cQ K W3 γ3 σ3/\kZ hg p (xs.drop (j+1)) γ3 M3=some (o,M'),?_,fun y H3 hy=>?_⟩
  .rintro σ3 H3 ⟨γ3,M3,W3,e3,G3,R3,h3⟩;exact⟨_,by omega,γ3,M3,W3,hlt,rfl,e2.trans e3,G3,R3,h3⟩
  .obtain⟨W8,e8,G8,ry⟩:=yl y H3 hy;obtain⟨⟨γ4,M4⟩,h4,h2⟩:=aG (show(hg xs[j] γ' M2).bind _=_ from h2);obtain⟨⟨o5,M5⟩,h5,h2⟩:=aG h2;refine a _ _ _ _ _ h4 W8 _ σ' y _ G8 (R2.up e8) ry fun σ4 W4 H4 e4 G4 R4=>?_;refine b _ _ _ _ h5 W4 H4 σ4 _ G4 R4 fun W5 H5 e5 G5=>?_;have e25:=(e8.trans e4).trans e5;cases o5 with
   |nx γ5=>exact fun σ5 R5=>⟨γ5,M5,W5,e25,G5,R5,h2⟩
   |ct γ5=>exact fun σ5 R5=>⟨γ5,M5,W5,e25,G5,R5,h2⟩
   |bk γ5=>cases h2;exact k W5 H5 ((e1.trans e2).trans e25) G5
   |rt x=>cases h2;exact k W5 H5 ((e1.trans e2).trans e25) G5
 .have e:j=xs.length:=by omega
  subst e;rw[S6]at h2;cases h2;exact .inl ⟨gv2,k W2 H' (e1.trans e2) G2 σ' R2⟩
theorem aAI(c:STt K tt ft)(b:SS K t p):SS K (aBO tt t) (vN ft p):=by
 sleep 5;unfold vN at hh;by_cases hex:∃n,(gR ft p n γ M).isSome=true
 .rw[dif_pos hex]at hh;generalize hex.choose=n at hh;refine⟨fun m σ' H'=>∃γ' M2 W2,W.Ext W2/\Good K W2 M2 H'/\cQ K W2 γ' σ'/\gR ft p m γ' M2=some (o,M'),⟨n,γ,M,W,.refl _,G,R,hh⟩,?_⟩;rintro m σ' H' ⟨γ',M2,W2,e2,G2,R2,h2⟩;cases m with
  |zero=>cases h2
  |succ m=>
   obtain⟨⟨c3,M3⟩,h3,h2⟩:=aG (show(ft γ' M2).bind _=_ from h2);refine c _ _ _ _ h3 W2 H' σ' _ G2 R2 fun W3 H3 e3 G3=>?_;cases c3 with
   |true=>
    rw[A3 rfl];rw[A3 rfl]at h2;obtain⟨⟨o4,M4⟩,h4,h2⟩:=aG h2;refine⟨fun σ4 H4=>∃γ4 M4 W4,W2.Ext W4/\Good K W4 M4 H4/\cQ K W4 γ4 σ4/\gR ft p m γ4 M4=some (o,M'),?_,?_⟩
    .rintro σ4 H4 ⟨γ4,M4,W4,e4,G4,R4,h4⟩;exact⟨m,F5 _,γ4,M4,W4,e2.trans e4,G4,R4,h4⟩
    .refine b _ _ _ _ h4 W3 H3 σ' _ G3 (R2.up e3) fun W5 H5 e5 G5=>?_;have e25:=e3.trans e5;cases o4 with
     |nx γ5=>exact fun σ5 R5=>⟨γ5,M4,W5,e25,G5,R5,h2⟩
     |ct γ5=>exact fun σ5 R5=>⟨γ5,M4,W5,e25,G5,R5,h2⟩
     |bk γ5=>cases h2;exact k W5 H5 (e2.trans e25) G5
     |rt x=>cases h2;exact k W5 H5 (e2.trans e25) G5
   |false=>
    rw[A5 A4];rw[A5 A4]at h2;cases h2;exact k W3 H3 (e2.trans e3) G3 σ' (R2.up e3)
 .rw[dif_neg hex]at hh;cases hh
theorem mL{c:TF}{b:SF}:∀{n m:Nat}{γ:Ga}{M:Sto}{r:Out×Sto},gR c b n γ M=some r->n<=m->gR c b m γ M=some r
 |0,_,_,_,_=>fun h _=>by cases h
 |n+1,0,_,_,_=>fun _ h=>by omega
 |n+1,m+1,γ,M,r=>fun h hl=>by
  obtain⟨⟨b1,M1⟩,h1,h⟩:=aG (show(c γ M).bind _=_ from h);show(c γ M).bind _=_;rw[h1];show(if b1=true then _ else _)=_;cases b1 with
  |false=>exact h
  |true=>
   rw[A3 rfl];rw[A3 rfl]at h;obtain⟨⟨o,M2⟩,h2,h⟩:=aG h;rw[h2];cases o with
   |nx γ'=>exact mL (n:=n) (m:=m) h (by omega)
   |ct γ'=>exact mL (n:=n) (m:=m) h (by omega)
   |bk γ'=>exact h
   |rt x=>exact h
theorem KP{c:TF}{b:SF}{n:Nat}{r:Out×Sto}(h:gR c b n γ M=some r):vN c b γ M=some r:=by
 unfold vN;have hex:∃n,(gR c b n γ M).isSome=true:=⟨n,by rw[h];rfl⟩;rw[dif_pos hex];have hs:=hex.choose_spec;cases q:gR c b hex.choose γ M with
 |none=>rw[q]at hs;cases hs
 |some r'=>
  rcases Nat.le_total n hex.choose with z|z
  .rw[mL h z]at q;exact q.symm▸rfl
  .rw[mL q z]at h;exact h
theorem CG{W:Wd}{γ:Ga}{σ:St}(R:cQ K W γ σ):∀cap:List (Option Nat),cQ K W (sM cap γ) (AG cap σ)
 |[]=>.nil
 |none::r=>.cons True.intro (CG R r)
 |some j::r=>by
  refine .cons ?_ (CG R r);show NG K W ((γ[j]?).join) ((σ[j]?).join);cases e:γ[j]? with
  |none=>
   have:σ[j]?=none:=by
    have hl:=Paired.len R;exact List.getElem?_eq_none_iff.mpr (by have:=List.getElem?_eq_none_iff.mp e;omega)
   rw[this];exact True.intro
  |some x=>
   obtain⟨y,hy,r'⟩:=Paired.get R e;rw[hy];exact r'
theorem JP{g:GF}{c:TF}{e:EF}:∀{xs:List CD}{γ:Ga}{M:Sto}{ys:List CD}{M':Sto},lcF g c e xs γ M=some (ys,M')->ys.length<=xs.length
 |[],_,_,_,_=>fun h=>by cases h;exact D6 _
 |x::xs,γ,M,ys,M'=>fun h=>by
  obtain⟨⟨γ1,M1⟩,h1,h⟩:=aG (show(g x γ M).bind _=_ from h);obtain⟨⟨b,M2⟩,h2,h⟩:=aG h;cases b with
  |true=>
   rw[A3 rfl]at h;obtain⟨⟨y,M3⟩,h3,h⟩:=aG h;obtain⟨⟨zs,M4⟩,h4,h⟩:=aG h;cases h;have:=JP h4;simp only[List.length_cons];omega
  |false=>
   rw[A5 A4]at h;have:=JP h;simp only[List.length_cons];omega
theorem YA{wi:TI}{cap:List (Option Nat)}{te:TE}{fe:EF}(i:SI K wi fa)(a:SG K tg hg)(c:STt K tt ft)(b:SE K te fe){xs:List CD}(hh:pE cap fa hg ft fe γ M=some (xs,M'))
 {W:Wd} {H:Hp} {σ:St} {Q:VK} (G:Good K W M H) (R:cQ K W γ σ) (k:∀vs W' H',W.Ext W'->Good K W' M' H'->bU K W' xs vs->∀p,H' p=none->Q (.ref p) (upd H' p (.lst vs))):tLc cap wi tg tt te σ H Q:=by
 sleep 6;have hh:(if ys.length<=sizeLine then lcF hg ft fe ys (sM cap γ) M1 else none)=some (xs,M'):=hh;by_cases hl:ys.length<=sizeLine
 .rw[A3 hl]at hh;refine i _ _ _ _ h1 W H σ _ G R fun J W1 H1 e1 G1 gv=>?_
  refine⟨fun j m acc σ' H'=>∃γ' M2 W2 pre suf,j<=ys.length/\m=ys.length-j/\acc.length<=j/\W1.Ext W2/\Good K W2 M2 H'/\cQ K W2 γ' σ'/\bU K W2 pre acc/\pre++suf=xs/\lcF hg ft fe (ys.drop j) γ' M2=some (suf,M'),
   ⟨_,sM cap γ,M1,W1,[],xs,D6 _,rfl,D6 _,.refl _,G1,CG (R.up e1) cap,.nil,rfl,hh⟩,?_⟩
  rintro j m acc σ' H' ⟨γ',M2,W2,pre,suf,hj,rfl,hacc,e2,G2,R2,rp,hx,h2⟩;obtain⟨gv1,gv2⟩:=gv W2 M2 H' e2 G2;by_cases hlt:j<ys.length
  .obtain⟨go,yl⟩:=gv1 j ys[j] (B5 hlt);rw[F9 hlt]at h2;refine .inr ⟨go,by omega,fun acc3 σ3 H3=>∃γ3 M3 W3 pre3 suf3,acc3.length<=j+1/\W2.Ext W3/\Good K W3 M3 H3/\cQ K W3 γ3 σ3/\bU K W3 pre3 acc3/\pre3++suf3=xs/\lcF hg ft fe (ys.drop (j+1)) γ3 M3=some (suf3,M'),?_,fun y H3 hy=>?_⟩
   .rintro acc3 σ3 H3 ⟨γ3,M3,W3,pre3,suf3,hl3,e3,G3,R3,rp3,hx3,h3⟩;exact⟨_,by omega,γ3,M3,W3,pre3,suf3,hlt,rfl,hl3,e2.trans e3,G3,R3,rp3,hx3,h3⟩
   .obtain⟨W8,e8,G8,ry⟩:=yl y H3 hy;obtain⟨⟨γ4,M4⟩,h4,h2⟩:=aG (show(hg ys[j] γ' M2).bind _=_ from h2);obtain⟨⟨b5,M5⟩,h5,h2⟩:=aG h2;refine a _ _ _ _ _ h4 W8 _ σ' y _ G8 (R2.up e8) ry fun σ4 W4 H4 e4 G4 R4=>?_;refine c _ _ _ _ h5 W4 H4 σ4 _ G4 R4 fun W5 H5 e5 G5=>?_;have e25:=(e8.trans e4).trans e5;cases b5 with
    |true=>
     rw[A3 rfl]at h2;obtain⟨⟨z,M6⟩,h6,h2⟩:=aG h2;obtain⟨⟨zs,M7⟩,h7,h2⟩:=aG h2;cases h2;refine .inl ⟨rfl,b _ _ _ _ h6 W5 H5 σ4 _ G5 (R4.up e5) fun v W6 H6 e6 G6 r6=>?_⟩;refine⟨γ4,M6,W6,pre++[z],zs,by rw[A9];simp only[List.length_singleton];omega,e25.trans e6,G6,R4.up (e5.trans e6),Paired.app (bU.up rp (e25.trans e6)) (.cons r6 .nil),by rw[<- hx,B2];rfl,h7⟩
    |false=>
     rw[A5 A4]at h2;exact .inr ⟨rfl,γ4,M5,W5,pre,suf,by omega,e25,G5,R4.up e5,bU.up rp e25,hx,h2⟩
  .have e:j=ys.length:=by omega
   subst e;rw[S6]at h2;cases h2;rw[C5]at hx;subst hx;exact .inl ⟨gv2,k acc W2 H' (e1.trans e2) G2 rp⟩
 .rw[A5 hl]at hh;cases hh
theorem WB{cap:List (Option Nat)}{fa:AF}{hg:GF}{ft:TF}{fe:EF}{xs:List CD}(hh:pE cap fa hg ft fe γ M=some (xs,M')):xs.length<=sizeLine:=by
 sleep 6;have hh:(if ys.length<=sizeLine then lcF hg ft fe ys (sM cap γ) M1 else none)=some (xs,M'):=hh;by_cases hl:ys.length<=sizeLine
 .rw[A3 hl]at hh;exact C8 (JP hh) hl
 .rw[A5 hl]at hh;cases hh
theorem aFz{wi:TI}{cap:List (Option Nat)}{te:TE}{fe:EF}(i:SI K wi fa)(a:SG K tg hg)(c:STt K tt ft)(b:SE K te fe):SE K (tLc cap wi tg tt te) (fLc cap fa hg ft fe):=by
 sleep 0;sleep 6;obtain⟨ds,h2,hh⟩:=aG hh;by_cases hl:ds.length<=sizeLine
 .rw[A3 hl]at hh;cases hh;refine YA i a c b h1 G R fun vs W1 H1 e1 G1 r1 p hp=>?_;obtain⟨e2,G2⟩:=G1.lay (o:=.lst vs) hp;exact k _ _ _ (e1.trans e2) G2 ⟨p,vs,rfl,SqL.of aR,aJ.same e2.ff _ _ (dO h2 r1)⟩
 .rw[A5 hl]at hh;cases hh
theorem aHi{wi:TI}{cap:List (Option Nat)}{te:TE}{fe:EF}(i:SI K wi fa)(a:SG K tg hg)(c:STt K tt ft)(b:SE K te fe):SE K (tLc cap wi tg tt te) (WK cap fa hg ft fe):=by
 sleep 0;sleep 6;have hh:(if ys.length<=sizeLine then some (CD.c M1.length,M1++[Cell.lst ys])else none)=some (x,M'):=hh;rw[A3 (WB h1)]at hh;cases hh;refine YA i a c b h1 G R fun vs W1 H1 e1 G1 r1 p hp=>?_;exact k _ _ _ (e1.trans (W1.ext_more p)) (G1.new hp (c:=.lst ys) (o:=.lst vs) r1) G1.newV
theorem aIj:STt K aJt iD:=by
 sleep 0;cases hh;exact k W H (.refl _) G
theorem bU.some{W:Wd}:∀{xs:List CD}{vs:List V},bU K W xs vs->cQ K W (xs.map some) (vs.map some)
 |_,_,.nil=>.nil
 |_,_,.cons r t=>.cons r (bU.some t)
theorem rJ{W:Wd}:∀n:Nat,cQ K W (List.replicate n none) (List.replicate n none)
 |0=>.nil
 |n+1=>.cons True.intro (rJ n)
theorem Def.okM{P:Program}{w:World}{mg:Str->Option Value}{base:Heap}{x:Str}{st:Stmt}{N ps:List Str}{k:Nat}{b:SF}{q:Bool}(D:Def K mg x st)(S:aT N ps (aH st))
 (hb:∀(kV doc pm:Value)(an:Option Addr)(cdv ct:Value)(us:List Value),us.length=ps.length->bindArgs (PySem.W.fnOf x x (dW st) (bQ st) (aH st) .none kV doc pm an cdv ct) ⟨us,[]⟩=pure (ps.zip us))
 (hbody:∀(f:Addr)(cdv:Value)(A:Around)(outer:List Env)(s:Shared)(H:Hp)(E:XK),cB k (A.deeper (envOfC x (aH st) s.heap.objs.size f cdv)) q->
  ∃t,PSs (nR CX0 P w K mg base N x (aH st) f cdv A outer s H E q).nox (bQ st) t/\SS K t b):Callee P w K mg base (k+1) x ps (spM K (fnF ps.length N.length b)) q:=by
 have len:∀vs H Q E,spM K (fnF ps.length N.length b) vs H Q E->vs.length=ps.length:=fun vs H Q E h=>by
  obtain⟨xs,M,W,y,M',G,R,hf,_⟩:=h;by_cases hl:xs.length=ps.length
  .rw[<- Paired.len R];exact hl
  .unfold fnF at hf;rw[A5 hl]at hf;cases hf
 refine D.ok S hb len fun f cdv A outer s H vs Q E hr h=>?_;obtain⟨t,hP,hS⟩:=hbody f cdv A outer s H E hr;refine⟨t,hP,?_⟩;obtain⟨xs,M,W,y,M',G,R,hf,k⟩:=h;by_cases hl:xs.length=ps.length
 .unfold fnF at hf;rw[A3 hl]at hf;obtain⟨⟨o,M1⟩,h1,hf⟩:=aG hf
  have hR:cQ K W (xs.map some++List.replicate (N.length-xs.length) none) (start N vs):=by
   unfold start;rw[<- Paired.len R];exact Paired.app (bU.some R) (rJ _)
  refine hS _ _ _ _ h1 W H _ _ G hR fun W1 H1 e1 G1=>?_;cases o with
  |rt x=>cases hf;exact fun v r=>k v W1 H1 e1 G1 r
  |nx γ=>cases hf;exact fun σ r=>k .non W1 H1 e1 G1 rfl
  |bk γ=>cases hf
  |ct γ=>cases hf
 .unfold fnF at hf;rw[A5 hl]at hf;cases hf
end
noncomputable def BG(h h':F2):F2:=fun x y M=>match h x y M with
 |some r=>some r
 |none=>h' x y M
noncomputable def pI(g:Int->Int->Option PyData):F2:=fun x y M=>match x,y with
 |.d (.int i),.d (.int j)=>(g i j).bind fun z=>some (.d z,M)
 |_,_=>none
theorem aBy{g:Int->Int->Option PyData}{x y:CD}{z:CD}(h:pI g x y M=some (z,M')):∃i j w,x=.d (.int i)/\y=.d (.int j)/\g i j=some w/\z=.d w/\M'=M:=by
 unfold pI at h;split at h
 .rename_i i j;obtain⟨w,h1,h⟩:=aG h;cases h;exact⟨i,j,w,rfl,rfl,h1,rfl,rfl⟩
 .cases h
section
variable{X:Cx}{K:Fg}
theorem aFc{g:Int->Int->Int}:P2 K (rI0 fun i j=>.int (g i j)) (pI fun i j=>some (.int (g i j))):=by
 sleep 11;obtain⟨i,j,w,rfl,rfl,hw,rfl,rfl⟩:=aBy h;cases hw;exact⟨i,j,rx,ry,k _ W H (.refl _) G rfl⟩
theorem US{g:Int->Int->Bool}:P2 K (rI0 fun i j=>.bl (g i j)) (pI fun i j=>some (.bool (g i j))):=by
 sleep 11;obtain⟨i,j,w,rfl,rfl,hw,rfl,rfl⟩:=aBy h;cases hw;exact⟨i,j,rx,ry,k _ W H (.refl _) G rfl⟩
noncomputable def ifS(c:Bool)(x:PyData):Option PyData:=if c=true then some x else none
theorem aHW{c:Bool}{x y:PyData}(h:ifS c x=some y):c=true/\y=x:=by
 unfold ifS at h;cases c with
 |true=>rw[A3 rfl]at h;cases h;exact⟨rfl,rfl⟩
 |false=>rw[A5 A4]at h;cases h
theorem aEG{C:Int->Int->Prop}{c:Int->Int->Bool}{g:Int->Int->Int}(hc:∀i j,c i j=true->C i j):P2 K (rI C fun i j=>.int (g i j)) (pI fun i j=>ifS (c i j) (.int (g i j))):=by
 sleep 11;obtain⟨i,j,w,rfl,rfl,hw,rfl,rfl⟩:=aBy h;obtain⟨h1,rfl⟩:=aHW hw;exact⟨i,j,rx,ry,hc i j h1,k _ W H (.refl _) G rfl⟩
noncomputable def YY:F2:=pI fun i j=>some (.int (i+j))
noncomputable def pK:F2:=pI fun i j=>some (.int (i-j))
noncomputable def sQ(i j:Int):Bool:=decide (i.natAbs<2 ^ 64) || decide (j.natAbs<2 ^ 64) || (decide (i.natAbs<rH)&&decide (j.natAbs<rH))
noncomputable def OH:F2:=pI fun i j=>ifS (sQ i j) (.int (i*j))
noncomputable def HD(_ j:Int):Bool:=decide (0<j)&&decide (j.natAbs<rH)
noncomputable def GB:F2:=pI fun i j=>ifS (HD i j) (.int (i / j))
noncomputable def sC(_ j:Int):Bool:=decide (0<j)
noncomputable def uG:F2:=pI fun i j=>ifS (sC i j) (.int (i % j))
noncomputable def wK(i j:Int):Bool:=decide (0<=j)&&decide (j<=1000000)&&decide (i.natAbs<2 ^ 64)
noncomputable def xS:F2:=pI fun i j=>ifS (wK i j) (.int (i ^ j.toNat))
theorem mulOk_of{i j:Int}(h:sQ i j=true):MR i j:=by
 unfold sQ at h;simp only[Bool.or_eq_true,Bool.and_eq_true,decide_eq_true_eq]at h;rcases h with(h|h)|h
 .exact .inl (.inl ⟨by omega,by omega⟩)
 .exact .inl (.inr ⟨by omega,by omega⟩)
 .exact .inr h
noncomputable def ltI:F2:=pI fun i j=>some (.bool (decide (i<j)))
noncomputable def leI:F2:=pI fun i j=>some (.bool (decide (i<=j)))
noncomputable def gtI:F2:=pI fun i j=>some (.bool (decide (j<i)))
noncomputable def geI:F2:=pI fun i j=>some (.bool (decide (j<=i)))
noncomputable def eqD(neg:Bool):F2:=fun x y M=>match x,y with
 |.d a,.d b=>if (SeqAt.shaped a&&SeqAt.shaped b)=true then some (.d (.bool (if neg then !PyData.eqv a b else PyData.eqv a b)),M)else none
 |_,_=>none
theorem aFf{neg:Bool}:P2 K (YS K neg) (eqD neg):=by
 sleep 11;unfold eqD at h;split at h
 .rename_i a b;by_cases hs:(SeqAt.shaped a&&SeqAt.shaped b)=true
  .rw[A3 hs]at h;cases h;rw[B4]at hs;exact⟨a,b,Rep.same G.fh _ _ rx,Rep.same G.fh _ _ ry,hs.1,hs.2,k _ W H (.refl _) G rfl⟩
  .rw[A5 hs]at h;cases h
 .cases h
noncomputable def inD(neg:Bool):F2:=fun x y M=>match x,y with
 |.d a,.d b=>(aW b).bind fun ds=>if (SeqAt.shaped a&&ds.all SeqAt.shaped)=true then some (.d (.bool (if neg then !ds.any fun d=>PyData.eqv d a else ds.any fun d=>PyData.eqv d a)),M)else none
 |_,_=>none
theorem aKj{neg:Bool}:P2 K (XH K neg) (inD neg):=by
 sleep 11;unfold inD at h;split at h
 .rename_i a b;obtain⟨ds,h1,h⟩:=aG h;by_cases hs:(SeqAt.shaped a&&ds.all SeqAt.shaped)=true
  .rw[A3 hs]at h;cases h;rw[B4]at hs;obtain⟨p,vs,rfl,hq,hr⟩:=jT (Rep.same G.fh _ _ ry) h1;exact⟨a,ds,p,vs,Rep.same G.fh _ _ rx,rfl,hq,hr,hs.1,hs.2,k _ W H (.refl _) G rfl⟩
  .rw[A5 hs]at h;cases h
 .cases h
theorem aJ.nth{ds:List PyData}{vs:List V}{i:Nat}{d:PyData}(h:aJ K H ds vs)(e:ds[i]?=some d):∃v,vs[i]?=some v/\Rep K H d v:=by
 have hlt:i<vs.length:=by rw[<- h.length];exact(List.getElem?_eq_some_iff.mp e).1
 have hv:vs[i]?=some vs[i]:=B5 hlt;obtain⟨d',hd',r⟩:=h.get hv;rw[e]at hd';cases hd';exact⟨_,hv,r⟩
theorem RM{α:Type}{xs:List α}{i:Int}{x:α}(h:atI xs i=some x):∃j,ixN xs.length i=some j/\xs[j]?=some x:=by
 unfold atI at h;exact aG h
theorem JM{α:Type}{xs:List α}{i:Int}{j:Nat}{x:α}(h:ixN xs.length i=some j)(e:xs[j]?=some x):atI xs i=some x:=by
 unfold atI;rw[h];exact e
noncomputable def ixF:F2:=fun x y M=>match x,y with
 |.d a,.d (.int n)=>(aW a).bind fun ds=>(atI ds n).bind fun e=>some (.d e,M)
 |.c i,.d (.int n)=>match M[i]? with
  |some (.lst xs)=>(atI xs n).bind fun e=>some (e,M)
  |_=>none
 |.t xs,.d (.int n)=>(atI xs n).bind fun e=>some (cdA e,M)
 |_,_=>none
theorem Good.lstAt{i:Nat}{xs:List CD}(G:Good K W M H)(h:M[i]?=some (.lst xs)):∃vs,H (W.α i)=some (.lst vs)/\bU K W xs vs:=by
 obtain⟨_,o,h2,h3⟩:=G.cs i _ h (by intro z;cases z);cases o with
 |lst vs=>exact⟨vs,h2,h3⟩
 |_=>exact False.elim h3
theorem aJe:P2 K (rIx K) ixF:=by
 sleep 11;unfold ixF at h;split at h
 .rename_i a n;obtain⟨ds,h1,h⟩:=aG h;obtain⟨e,h2,h⟩:=aG h;cases h;obtain⟨p,vs,rfl,hq,hr⟩:=jT (Rep.same G.fh _ _ rx) h1;obtain⟨j,hj,he⟩:=RM h2;obtain⟨w,hw,rw'⟩:=hr.nth he;have hlen:=hr.length;have hat:atI vs n=some w:=JM (by rw[<- hlen];exact hj) hw;obtain⟨p',vs',e',hq',hr'⟩:=jT (show Rep K W.F a (.ref p)from rx) h1;cases e'
  have same:∀w',vs'[j]?=some w'->Rep K W.F e w':=fun w' hw'=>by
   obtain⟨w2,h3,h4⟩:=hr'.nth he;rw[hw']at h3;cases h3;exact h4
  obtain⟨w',hw',r'⟩:=hr'.nth he;have hat':atI vs' n=some w':=JM (by rw[<- hr'.length];exact hj) hw';rcases hq' with hq'|hq'
  .exact .inl ⟨p,vs',n,w',rfl,ry,G.fh.seq hq',hat',k _ W H (.refl _) G r'⟩
  .exact .inr (.inl ⟨p,vs',n,w',rfl,ry,G.fh.seqT hq',hat',k _ W H (.refl _) G r'⟩)
 .rename_i i n;split at h
  .rename_i xs hx;obtain⟨e,h2,h⟩:=aG h;cases h;obtain⟨vs,hv,hr⟩:=G.lstAt hx;obtain⟨j,hj,he⟩:=RM h2;obtain⟨w,hw,r'⟩:=Paired.get hr he;have hat:atI vs n=some w:=JM (by rw[<- Paired.len hr];exact hj) hw;rw[show v=.ref (W.α i)from rx.2];exact .inl ⟨_,vs,n,w,rfl,ry,SqL.of hv,hat,k _ W H (.refl _) G r'⟩
  .cases h
 .rename_i xs n;obtain⟨e,h2,h⟩:=aG h;cases h;obtain⟨a,vs,rfl,hv,hr⟩:=rx;obtain⟨j,hj,he⟩:=RM h2;obtain⟨w,hw,r'⟩:=Paired.get hr he;have hat:atI vs n=some w:=JM (by rw[<- Paired.len hr];exact hj) hw;exact .inr (.inl ⟨_,vs,n,w,rfl,ry,SqT.of (G.fh _ _ hv),hat,k _ W H (.refl _) G (by cases e<;>exact r')⟩)
 .cases h
noncomputable def gP:FN:=fun xs M=>match xs with
 |[.d a]=>(aW a).bind fun ds=>some (.d (.int ds.length),M)
 |[.c i]=>match M[i]? with
  |some (.lst ys)=>some (.d (.int ys.length),M)
  |_=>none
 |[.t xs]=>some (.d (.int xs.length),M)
 |_=>none
theorem aIo:PN K (fun xs H Q=>∃p ys,xs=[.ref p]/\(SqL K H p ys\/SqT K H p ys)/\Q (.int ys.length) H) gP:=by
 intro xs M z M' h W H vs Q G r k;unfold gP at h;split at h
 .rename_i a;obtain⟨ds,h1,h⟩:=aG h;cases h;sleep 12;obtain⟨p,us,rfl,hq,hr⟩:=jT (Rep.same G.fh _ _ r1) h1;refine⟨p,us,rfl,hq,?_⟩;rw[<- hr.length];exact k _ W H (.refl _) G rfl
 .rename_i i;split at h
  .rename_i ys hy;cases h;sleep 12;obtain⟨us,hv,hr⟩:=G.lstAt hy;rw[r1.2];refine⟨_,us,rfl,.inl (SqL.of hv),?_⟩;rw[<- Paired.len hr];exact k _ W H (.refl _) G rfl
  .cases h
 .rename_i xs;cases h;sleep 12;obtain⟨a,us,rfl,hv,hr⟩:=r1;refine⟨_,us,rfl,.inr (SqT.of (G.fh _ _ hv)),?_⟩;rw[<- Paired.len hr];exact k _ W H (.refl _) G rfl
 .cases h
noncomputable def mP:FN:=fun xs M=>match xs with
 |[.d a]=>(aW a).bind fun ds=>some (.d (.list ds),M)
 |[.c i]=>match M[i]? with
  |some (.lst ys)=>(iQ ys).bind fun ds=>some (.d (.list ds),M)
  |_=>none
 |_=>none
theorem aDA:PN K (fun xs H Q=>∃p ys,xs=[.ref p]/\(SqL K H p ys\/SqT K H p ys)/\∀l,H l=none->Q (.ref l) (upd H l (.lst ys))) mP:=by
 intro xs M z M' h W H vs Q G r k;unfold mP at h;split at h
 .rename_i a;obtain⟨ds,h1,h⟩:=aG h;cases h;sleep 12;obtain⟨p,us,rfl,hq,hr⟩:=jT (show Rep K W.F a _ from r1) h1;refine⟨p,us,rfl,hq.imp (fun z=>G.fh.seq z) (fun z=>G.fh.seqT z),fun l hl=>?_⟩;obtain⟨e2,G2⟩:=G.lay (o:=.lst us) hl;exact k _ _ _ e2 G2 ⟨l,us,rfl,SqL.of aR,aJ.same e2.ff _ _ hr⟩
 .rename_i i;split at h
  .rename_i ys hy;obtain⟨ds,h1,h⟩:=aG h;cases h;sleep 12;obtain⟨us,hv,hr⟩:=G.lstAt hy;rw[r1.2];refine⟨_,us,rfl,.inl (SqL.of hv),fun l hl=>?_⟩;obtain⟨e2,G2⟩:=G.lay (o:=.lst us) hl;exact k _ _ _ e2 G2 ⟨l,us,rfl,SqL.of aR,aJ.same e2.ff _ _ (dO h1 hr)⟩
  .cases h
 .cases h
noncomputable def eY:FN:=fun xs M=>match xs with
 |[.d (.list ds)]=>some (.d (.tuple ds),M)
 |[.d (.tuple ds)]=>some (.d (.tuple ds),M)
 |[.c i]=>match M[i]? with
  |some (.lst ys)=>(iQ ys).bind fun ds=>some (.d (.tuple ds),M)
  |_=>none
 |_=>none
theorem aAE:PN K (fun xs H Q=>∃p ys,xs=[.ref p]/\((SqL K H p ys/\∀l,H l=none->Q (.ref l) (upd H l (.tup ys)))\/(SqT K H p ys/\Q (.ref p) H))) eY:=by
 intro xs M z M' h W H vs Q G r k;unfold eY at h;split at h
 .rename_i ds;cases h;sleep 12;sleep 17;refine⟨p,us,rfl,.inl ⟨G.fh.seq hq,fun l hl=>?_⟩⟩;obtain⟨e2,G2⟩:=G.lay (o:=.tup us) hl;exact k _ _ _ e2 G2 ⟨l,us,rfl,SqT.of aR,aJ.same e2.ff _ _ hr⟩
 .rename_i ds;cases h;sleep 12;obtain⟨p,us,rfl,hq,hr⟩:=(show ∃a us,_=V.ref a/\SqT K W.F a us/\aJ K W.F ds us from r1);exact⟨p,us,rfl,.inr ⟨G.fh.seqT hq,k _ W H (.refl _) G ⟨p,us,rfl,hq,hr⟩⟩⟩
 .rename_i i;split at h
  .rename_i ys hy;obtain⟨ds,h1,h⟩:=aG h;cases h;sleep 12;obtain⟨us,hv,hr⟩:=G.lstAt hy;rw[r1.2];refine⟨_,us,rfl,.inl ⟨SqL.of hv,fun l hl=>?_⟩⟩;obtain⟨e2,G2⟩:=G.lay (o:=.tup us) hl;exact k _ _ _ e2 G2 ⟨l,us,rfl,SqT.of aR,aJ.same e2.ff _ _ (dO h1 hr)⟩
  .cases h
 .cases h
noncomputable def IW(T:String)(f:EF):EF:=fun γ M=>(f γ M).bind fun r=>match r.1 with
 |.d a=>some (.d (.bool (nO T a)),r.2)
 |_=>none
theorem aFH{T:String}{ta:TE}{f:EF}(hT:T∈asked)(a:SE K ta f):SE K (tCB (aDp K) (pH ta (pH (tC (.ty T)) QX))) (IW T f):=by
 sleep 0;sleep 3;cases y with
 |c _=>cases hh
 |t _=>cases hh
 |f _=>cases hh
 |d y=>
  cases hh;sleep 1;exact⟨v,T,y,rfl,hT,Rep.same G1.fh _ _ r1,k _ W1 H1 e1 G1 rfl⟩
noncomputable def aJE(T U:String)(f:EF):EF:=fun γ M=>(f γ M).bind fun r=>match r.1 with
 |.d a=>some (.d (.bool (nO T a || nO U a)),r.2)
 |_=>none
noncomputable def aDn(M:Sto):CD->Option Bool
 |.d .none=>some false
 |.d (.bool b)=>some b
 |.d (.int i)=>some (i != 0)
 |.d (.list ds)=>some (!ds.isEmpty)
 |.d (.tuple ds)=>some (!ds.isEmpty)
 |.c i=>match M[i]? with
  |some (.lst xs)=>some (!xs.isEmpty)
  |some (.dk kvs)=>some (!kvs.isEmpty)
  |_=>none
 |_=>none
noncomputable def IS(f:EF):TF:=fun γ M=>(f γ M).bind fun r=>(aDn r.2 r.1).bind fun b=>some (b,r.2)
theorem mZ{α β:Type}{xs:List α}{ys:List β}(h:xs.length=ys.length):xs.isEmpty=ys.isEmpty:=by
 cases xs<;>cases ys<;>simp at h ⊢
theorem aFJ{ta:TE}{f:EF}(a:SE K ta f):STt K (fun σ H Q=>ta σ H fun x H'=>∃k,aCA K x H' k/\Q k H') (IS f):=by
 intro γ M b M' hh W H σ Q G R k;sleep 3;obtain⟨b1,h2,hh⟩:=aG hh;cases hh;refine a _ _ _ _ h1 W H σ _ G R fun v W1 H1 e1 G1 r1=>⟨_,?_,k W1 H1 e1 G1⟩;cases y with
 |d y=>
  cases y with
  |none=>cases h2;rw[show v=.non from r1];rfl
  |bool c=>cases h2;rw[show v=.bl _ from r1];rfl
  |int i=>cases h2;rw[show v=.int _ from r1];rfl
  |str x=>cases h2
  |list ds=>
   cases h2;obtain⟨p,us,rfl,hq,hr⟩:=(show ∃a us,_=V.ref a/\SqL K W1.F a us/\aJ K W1.F ds us from r1);exact .inl ⟨us,G1.fh.seq hq,by rw[mZ hr.length]⟩
  |tuple ds=>
   cases h2;obtain⟨p,us,rfl,hq,hr⟩:=(show ∃a us,_=V.ref a/\SqT K W1.F a us/\aJ K W1.F ds us from r1);exact .inr (.inl ⟨us,G1.fh.seqT hq,by rw[mZ hr.length]⟩)
  |dict kvs=>cases h2
 |t _=>cases h2
 |f _=>cases h2
 |c i=>
  rw[r1.2];unfold aDn at h2;dsimp only at h2;split at h2
  .rename_i xs hx;cases h2;obtain⟨us,hv,hr⟩:=G1.lstAt hx;exact .inl ⟨us,SqL.of hv,by rw[mZ (Paired.len hr)]⟩
  .rename_i kvs hx;cases h2;obtain⟨_,o,g2,g3⟩:=G1.cs i _ hx (by intro z;cases z);cases o with
   |dK us=>exact .inr (.inr ⟨us,g2,by rw[mZ (Paired.len g3)]⟩)
   |_=>exact False.elim g3
  .cases h2
noncomputable def boolsOf:List PyData->Option (List Bool)
 |[]=>some []
 |.bool b::r=>(boolsOf r).bind fun bs=>some (b::bs)
 |_::_=>none
noncomputable def CP:FN:=fun xs M=>match xs with
 |[.d (.list ds)]=>(boolsOf ds).bind fun bs=>some (.d (.bool (bs.all id)),M)
 |_=>none
theorem oO{H:Hp}:∀{ds:List PyData}{bs:List Bool}{vs:List V},boolsOf ds=some bs->aJ K H ds vs->vs=bs.map V.bl
 |[],bs,vs=>fun e h=>by cases e;exact h
 |.bool b::r,bs,vs=>fun e h=>by
  obtain⟨cs,h1,e⟩:=aG (show(boolsOf r).bind _=_ from e);cases e;obtain⟨v,us,rfl,h2,h3⟩:=h;rw[show v=V.bl b from h2,oO h1 h3];rfl
 |.none::_,_,_=>fun e _=>by cases e
 |.int _::_,_,_=>fun e _=>by cases e
 |.str _::_,_,_=>fun e _=>by cases e
 |.list _::_,_,_=>fun e _=>by cases e
 |.tuple _::_,_,_=>fun e _=>by cases e
 |.dict _::_,_,_=>fun e _=>by cases e
theorem VI(hc:X.calm=true):gO X (.builtin "all") (fun xs H Q=>∃(p:Addr)(bs:List Bool),xs=[.ref p]/\SqL X.K H p (bs.map V.bl)/\Q (.bl (bs.all id)) H):=by
 intro pins s σ H xs us Q I r h;obtain⟨p,bs,rfl,hp,q⟩:=h;obtain⟨u,rfl,ru⟩:=vals1 r;cases (show u=Value.ref p from ru);obtain⟨its,rv,pl,hz⟩:=I.list hp;have hits:=bK.bools rv;subst hits;refine call_all_walk (wpAny_pyIter_list pl.isList ?_);have hlt:p<s.heap.objs.size:=pl.lt;refine⟨_,_,_,_,_,_,(fun i=>bs.getD i false),rfl,Walks.list (A:=X.A.in1) (I.ok.hd hc) s.heap.objs.size p (B6 hlt) (bs.map Value.bool).toArray,⟨⟨_,B7 _ rfl,rfl,rfl⟩,pl.isList.at fun o e=>A2 _ e⟩,NL,fun h' tk hk=>?_⟩;have e1:((bs.map Value.bool).toArray).size=bs.length:=by simp
 rw[e1,all_range];refine⟨.bl _,H,I.kept (h':=h') (t':=tk) fun b o e=>?_,rfl,q⟩;exact hk b o (fun z=>by rw[List.mem_singleton]at z;exact absurd (B0 e) (by rw[z];exact F6 _)) (A2 _ e)
theorem aHL:PN K (fun xs H Q=>∃(p:Addr)(bs:List Bool),xs=[.ref p]/\SqL K H p (bs.map V.bl)/\Q (.bl (bs.all id)) H) CP:=by
 intro xs M z M' h W H vs Q G r k;unfold CP at h;split at h
 .rename_i ds;obtain⟨bs,h1,h⟩:=aG h;cases h;sleep 12;sleep 17;have e:=oO h1 hr;subst e;exact⟨p,bs,rfl,G.fh.seq hq,k _ W H (.refl _) G rfl⟩
 .cases h
noncomputable def JD:F3:=fun x y z M=>match x,y with
 |.c i,.d (.int k)=>match M[i]? with
  |some (.lst xs)=>(ixN xs.length k).bind fun j=>some (M.set i (.lst (xs.set j z)))
  |_=>none
 |_,_=>none
theorem aIs:P3 K aFy JD:=by
 intro x y z M M' h W H v u w Q G rx ry rz k;unfold JD at h;split at h
 .rename_i i n;split at h
  .rename_i xs hx;obtain⟨j,h1,h⟩:=aG h;cases h;obtain⟨us,hv,hr⟩:=G.lstAt hx;refine⟨W.α i,us,n,j,rx.2,ry,hv,by rw[<- Paired.len hr];exact h1,?_⟩;exact k W _ (.refl _) (G.set hx (by intro q;cases q) (c':=.lst (xs.set j z)) (show bU K W _ _ from Paired.set (R:=cF K W) rz j hr))
  .cases h
 .cases h
end
section
variable{X:Cx}{K:Fg}
noncomputable def CK(K:Fg):R2:=fun x y H Q=>∃l b xs zs,x=.ref l/\y=.ref b/\SqL K H l xs/\SqL K H b zs/\xs.length+zs.length<=sizeLine/\∀p,H p=none->Q (.ref p) (upd H p (.lst (xs++zs)))
theorem op_catS:OpR X (binaryOp .Add) (CK X.K):=by
 sleep 13;obtain⟨l,b,xs,zs,rfl,rfl,hH,hB,hz,q⟩:=h;cases rx;cases ry;obtain⟨its,r,⟨⟨cls,dd,data,sl⟩,n,ho,hc,hdd,hd⟩,_⟩:=I.list hH;obtain⟨its2,r2,⟨⟨cls2,dd2,data2,sl2⟩,n2,ho2,hc2,hdd2,hd2⟩,_⟩:=I.list hB;simp only at hc hd hc2 hd2;subst hc hd hc2 hd2;have e1:=r.length;have e2:=r2.length;refine concat_meets ⟨_,ho,rfl⟩ ⟨_,ho2,rfl⟩ noFill_list_add seq_list_add PySem.F.slot_list_add PySem.F.entry_list_add (PySem.F.args_list_add_2 _ _) (list_addW l b its.toArray its2.toArray n n2 dd dd2 sl sl2 (by rw[D0,D0];omega)) ⟨ho,ho2,?_⟩;have ea:its.toArray++its2.toArray=(its++its2).toArray:=by simp
 rw[ea];exact⟨.ref _,_,I.lnew (t':=s.toks) (r.append r2) (by rw[A9];omega),rfl,q _ I.fresh⟩
noncomputable def qT(M:Sto):CD->Option (List CD)
 |.d (.list ds)=>some (ds.map .d)
 |.c i=>match M[i]? with
  |some (.lst xs)=>some xs
  |_=>none
 |_=>none
theorem uA{x:CD}{xs:List CD}{v:V}(G:Good K W M H)(h:qT M x=some xs)(r:cF K W x v):∃p vs,v=.ref p/\SqL K H p vs/\bU K W xs vs:=by
 unfold qT at h;split at h
 .rename_i ds;cases h;obtain⟨p,us,rfl,hq,hr⟩:=(show ∃a us,_=V.ref a/\SqL K W.F a us/\aJ K W.F ds us from r);exact⟨p,us,rfl,G.fh.seq hq,kN hr⟩
 .rename_i i;split at h
  .rename_i ys hy;cases h;obtain⟨us,hv,hr⟩:=G.lstAt hy;exact⟨_,us,r.2,SqL.of hv,hr⟩
  .cases h
 .cases h
noncomputable def FQ:F2:=fun x y M=>(qT M x).bind fun xs=>(qT M y).bind fun ys=>(iQ (xs++ys)).bind fun ds=>if ds.length<=sizeLine then some (.d (.list ds),M)else none
theorem aDM:P2 K (CK K) FQ:=by
 sleep 11;obtain⟨xs,h1,h⟩:=aG h;obtain⟨ys,h2,h⟩:=aG h;obtain⟨ds,h3,h⟩:=aG h;by_cases hl:ds.length<=sizeLine
 .rw[A3 hl]at h;cases h;obtain⟨p,vs,rfl,hp,hr⟩:=uA G h1 rx;obtain⟨q,us,rfl,hq,hs⟩:=uA G h2 ry;have el:=BC h3;rw[A9]at el;refine⟨p,q,vs,us,rfl,rfl,hp,hq,by rw[<- Paired.len hr,<- Paired.len hs];omega,fun l hl=>?_⟩;obtain⟨e2,G2⟩:=G.lay (o:=.lst (vs++us)) hl;exact k _ _ _ e2 G2 ⟨l,_,rfl,SqL.of aR,aJ.same e2.ff _ _ (dO h3 (Paired.app hr hs))⟩
 .rw[A5 hl]at h;cases h
noncomputable def aFY:F2:=fun x y M=>match x,y with
 |.d (.tuple xs),.d (.tuple ys)=>if xs≠[]/\xs.length+ys.length<=sizeLine then some (.d (.tuple (xs++ys)),M)else none
 |_,_=>none
theorem aJ.nil_iff{ds:List PyData}{vs:List V}(r:aJ K H ds vs):vs=[]↔ds=[]:=by
 have:=r.length;constructor<;>intro h<;>subst h<;>simp at this
 .exact this
 .exact List.eq_nil_of_length_eq_zero this.symm
theorem aDv:P2 K (aCm K) aFY:=by
 sleep 11;unfold aFY at h;split at h
 .rename_i xs ys;by_cases hc:xs≠[]/\xs.length+ys.length<=sizeLine
  .rw[A3 hc]at h;cases h;obtain⟨p,vs,rfl,hp,hr⟩:=(show ∃a us,v=V.ref a/\SqT K W.F a us/\aJ K W.F xs us from rx);obtain⟨q,us,rfl,hq,hs⟩:=(show ∃a us,u=V.ref a/\SqT K W.F a us/\aJ K W.F ys us from ry);refine⟨p,q,vs,us,rfl,rfl,G.fh.seqT hp,G.fh.seqT hq,fun z=>hc.1 (hr.nil_iff.mp z),by rw[<- hr.length,<- hs.length];exact hc.2,fun z=>?_,fun z l hl=>?_⟩
   .have:ys=[]:=hs.nil_iff.mp z;subst this;rw[C5]at k;exact k _ W H (.refl _) G ⟨p,vs,rfl,hp,hr⟩
   .obtain⟨e2,G2⟩:=G.lay (o:=.tup (vs++us)) hl;exact k _ _ _ e2 G2 ⟨l,_,rfl,SqT.of aR,aJ.same e2.ff _ _ (aJ.app hr hs)⟩
  .rw[A5 hc]at h;cases h
 .cases h
theorem P2.or{r r':R2}{h h':F2}(a:P2 K r h)(b:P2 K r' h'):P2 K (fun x y H Q=>r x y H Q\/r' x y H Q) (BG h h'):=by
 intro x y M z M' hh W H v u Q G rv ru k;unfold BG at hh;cases e:h x y M with
 |some q=>
  rw[e]at hh;cases hh;exact .inl (a _ _ _ _ _ e W H v u Q G rv ru k)
 |none=>
  rw[e]at hh;exact .inr (b _ _ _ _ _ hh W H v u Q G rv ru k)
noncomputable def QC(K:Fg):R2:=fun x y H Q=>∃a b ys,x=.ref a/\y=.ref b/\SqT K H a []/\SqT K H b ys/\Q (.ref b) H
theorem op_catT0:OpR X (binaryOp .Add) (QC X.K):=by
 sleep 13;obtain⟨a,b,ys,rfl,rfl,ha,hb,q⟩:=h;cases rx;cases ry;obtain⟨its,r1,⟨⟨cls,dd,data,sl⟩,ho,hc,n,hd⟩,_⟩:=I.tuple ha;obtain⟨its2,r2,⟨⟨cls2,dd2,data2,sl2⟩,ho2,hc2,n2,hd2⟩,_⟩:=I.tuple hb;simp only at hc hd hc2 hd2;subst hc hd hc2 hd2;cases r1;exact concat_meets ⟨_,ho,rfl⟩ ⟨_,ho2,rfl⟩ noFill_tuple_add seq_tuple_add PySem.F.slot_tuple_add PySem.F.entry_tuple_add (PySem.F.args_tuple_add_2 _ _) (tuple_addW0 a b #[] its2.toArray n n2 dd dd2 sl sl2 rfl) ⟨ho,ho2,⟨.ref b,H,I,rfl,q⟩⟩
noncomputable def aCj:F2:=fun x y M=>match x,y with
 |.d (.tuple []),.d (.tuple ys)=>some (.d (.tuple ys),M)
 |_,_=>none
theorem aBW:P2 K (QC K) aCj:=by
 sleep 11;unfold aCj at h;split at h
 .rename_i ys;cases h;obtain⟨p,vs,rfl,hp,hr⟩:=(show ∃a us,v=V.ref a/\SqT K W.F a us/\aJ K W.F [] us from rx);obtain⟨q,us,rfl,hq,hs⟩:=(show ∃a us,u=V.ref a/\SqT K W.F a us/\aJ K W.F ys us from ry);rw[show vs=[]from hr]at hp;exact⟨p,q,us,rfl,rfl,G.fh.seqT hp,G.fh.seqT hq,k _ W H (.refl _) G ⟨q,us,rfl,hq,hs⟩⟩
 .cases h
noncomputable def dP:F2:=BG YY (BG FQ (BG aCj aFY))
noncomputable def UF(K:Fg):R2:=fun x y H Q=>(rI0 fun i j=>.int (i+j)) x y H Q\/CK K x y H Q\/QC K x y H Q\/aCm K x y H Q
theorem aCW:OpR X (binaryOp .Add) (UF X.K):=op_add.or (op_catS.or (op_catT0.or aDU))
theorem TU:P2 K (UF K) dP:=P2.or aFc (P2.or aDM (P2.or aBW aDv))
noncomputable def eqS(neg:Bool):F2:=fun x y M=>match x,y with
 |.d (.str a),.d (.str b)=>some (.d (.bool (if neg then !(a==b)else a==b)),M)
 |_,_=>none
noncomputable def eqX(neg:Bool):F2:=BG (eqS neg) (eqD neg)
noncomputable def aHH(K:Fg):R2:=fun x y H Q=>rEq x y H Q\/YS K false x y H Q
noncomputable def aHA(K:Fg):R2:=fun x y H Q=>rNe x y H Q\/YS K true x y H Q
theorem aCx{a b:Str}:decide (V.str a=V.str b)=(a==b):=by
 by_cases e:a=b
 .subst e;simp
 .have h:¬V.str a=V.str b:=fun q=>e (V.str.inj q);rw[B9 h,beq_eq_false_iff_ne.mpr e]
theorem aIn:P2 K rEq (eqS false):=by
 sleep 11;unfold eqS at h;split at h
 .rename_i a b;cases h;rw[show v=.str a from rx,show u=.str b from ry];refine⟨rfl,?_⟩;rw[aCx];exact k _ W H (.refl _) G rfl
 .cases h
theorem aFP:P2 K rNe (eqS true):=by
 sleep 11;unfold eqS at h;split at h
 .rename_i a b;cases h;rw[show v=.str a from rx,show u=.str b from ry];refine⟨rfl,?_⟩;rw[aCx];exact k _ W H (.refl _) G rfl
 .cases h
theorem aGj:P2 K (aHH K) (eqX false):=P2.or aIn aFf
theorem aIa:P2 K (aHA K) (eqX true):=P2.or aFP aFf
theorem aHh(hu:X.A.units+64<cLine):OpR X (compareOp .Eq) (aHH X.K):=op_eq.or (aFK hu)
theorem aHd(hu:X.A.units+64<cLine):OpR X (compareOp .NotEq) (aHA X.K):=op_ne.or (aIv hu)
theorem aGO:P2 K (rI0 fun i j=>.int (i-j)) pK:=aFc
theorem aHb:P2 K (rI MR fun i j=>.int (i*j)) OH:=aEG fun _ _ h=>mulOk_of h
theorem aEv:P2 K (rI aEU fun i j=>.int (i / j)) GB:=aEG fun i j h=>by
 unfold HD at h;rw[B4]at h;exact⟨C3 h.1,C3 (p:=j.natAbs<rH) h.2⟩
theorem aHV:P2 K (rI (fun _ j=>0<j) fun i j=>.int (i % j)) uG:=aEG fun i j h=>C3 h
theorem aIr:P2 K (rI aJD fun i j=>.int (i ^ j.toNat)) xS:=aEG fun i j h=>by
 unfold wK at h;rw[B4,B4]at h;exact⟨C3 h.1.1,C3 h.1.2,C3 h.2⟩
theorem aIV:P2 K (rI0 fun i j=>.bl (decide (i<j))) ltI:=US
theorem aKa:P2 K (rI0 fun i j=>.bl (decide (i<=j))) leI:=US
theorem aKk:P2 K (rI0 fun i j=>.bl (decide (j<i))) gtI:=US
theorem aJa:P2 K (rI0 fun i j=>.bl (decide (j<=i))) geI:=US
noncomputable def FP:F1:=fun x M=>match x with
 |.d (.int i)=>some (.d (.int (-i)),M)
 |_=>none
theorem aHN:P1 K (rU fun i=>.int (-i)) FP:=by
 intro x M z M' h W H v Q G r k;unfold FP at h;split at h
 .rename_i i;cases h;exact⟨i,r,k _ W H (.refl _) G rfl⟩
 .cases h
end
section
variable{X:Cx}{K:Fg}
theorem aJS(h:X.K=K):gO X (.builtin "isinstance") (aDp K):=by subst h;exact VN
theorem aJL(h:X.K=K):gO X (.builtin "isinstance") (aBZ K):=by subst h;exact RG
noncomputable def aJR(K:Fg):R2:=rIx K
theorem kIx(h:X.K=K):IxR X (aJR K):=by subst h;exact aHI
theorem aHo:P2 K (aJR K) ixF:=aJe
noncomputable def aFC(K:Fg):List V->Hp->VK->Prop:=fun xs H Q=>∃p ys,xs=[.ref p]/\(SqL K H p ys\/SqT K H p ys)/\Q (.int ys.length) H
theorem aKo(h:X.K=K):gO X (.builtin "len") (aFC K):=by subst h;exact JA
theorem aDx:PN K (aFC K) gP:=aIo
noncomputable def QY(K:Fg):List V->Hp->VK->Prop:=fun xs H Q=>∃p ys,xs=[.ref p]/\(SqL K H p ys\/SqT K H p ys)/\∀l,H l=none->Q (.ref l) (upd H l (.lst ys))
theorem aFB(h:X.K=K):gO X (.type "list") (QY K):=by subst h;exact JX
theorem aAG:PN K (QY K) mP:=aDA
noncomputable def UC(K:Fg):List V->Hp->VK->Prop:=fun xs H Q=>∃p ys,xs=[.ref p]/\((SqL K H p ys/\∀l,H l=none->Q (.ref l) (upd H l (.tup ys)))\/(SqT K H p ys/\Q (.ref p) H))
theorem aHT(h:X.K=K):gO X (.type "tuple") (UC K):=by subst h;exact FL
theorem WO:PN K (UC K) eY:=aAE
noncomputable def aFb(K:Fg):List V->Hp->VK->Prop:=fun xs H Q=>∃(p:Addr)(bs:List Bool),xs=[.ref p]/\SqL K H p (bs.map V.bl)/\Q (.bl (bs.all id)) H
theorem aKn(h:X.K=K)(hc:X.calm=true):gO X (.builtin "all") (aFb K):=by subst h;exact VI hc
theorem aES:PN K (aFb K) CP:=aHL
theorem kEq(h:X.K=K)(hu:X.A.units+64<cLine):OpR X (compareOp .Eq) (aHH K):=by subst h;exact aHh hu
theorem kNe(h:X.K=K)(hu:X.A.units+64<cLine):OpR X (compareOp .NotEq) (aHA K):=by subst h;exact aHd hu
theorem kIn(h:X.K=K)(hu:X.A.in1.units+64<cLine):OpR X (compareOp .In) (XH K false):=by subst h;exact aHR hu
theorem aFS(h:X.K=K)(hu:X.A.in1.units+64<cLine):OpR X (compareOp .NotIn) (XH K true):=by subst h;exact VF hu
theorem aKm(h:X.K=K):OpR X (binaryOp .Add) (UF K):=by subst h;exact aCW
theorem IP{tg l:Expr}{tl:TE}(h:X.K=K)(hl:PE X l tl):PI X tg l (aDb K tl):=by subst h;exact aGz hl
theorem UE{es:List Expr}{k:Nat}{t:TGs}{n:Nat}{pos:Pos}(hK:X.K=K)(hc:X.calm=true)(h:PGs X es t)
 (hn:(assignEach es X.env).length=n:=by rfl) (hst:(assignEach es X.env).findIdx? (·.1)=none:=by rfl):PG X (.Tuple es k pos) (aAe K n t):=by subst hK;exact aHv hc h hn hst
noncomputable def aJc(K:Fg)(ta:TE):TT:=fun σ H Q=>ta σ H fun x H'=>∃k,aCA K x H' k/\Q k H'
theorem aDu{a:Expr}{ta:TE}(hK:X.K=K)(ha:PE X a ta)(he:∀whole,isTrue a X.env whole=(do let v <- whole;standAt a.pos;holding [v] (truthy v))):PT X a (aJc K ta):=by subst hK;exact aBL ha he
theorem aED{ta:TE}{f:EF}(a:SE K ta f):STt K (aJc K ta) (IS f):=aFJ a
end
section
variable{es:List Expr}{env:Env}
theorem aY{a b}:starEach (.Name a b::es) env=(false,eval (.Name a b) env)::starEach es env:=rfl
theorem BM{a b c}:starEach (.Tuple a b c::es) env=(false,eval (.Tuple a b c) env)::starEach es env:=rfl
theorem tZ{pos:Pos}:(backTo pos (starEach [] env)).any (·.1)=false:=rfl
theorem mG{pos:Pos}{e:Expr}(hs:starEach (e::es) env=(false,eval e env)::starEach es env)(h:(backTo pos (starEach es env)).any (·.1)=false):(backTo pos (starEach (e::es) env)).any (·.1)=false:=by
 rw[hs];have e1:backTo pos ((false,eval e env)::starEach es env)=(false,(do let v <- eval e env;standAt pos;pure v:Sem Value))::backTo pos (starEach es env)\/(backTo pos ((false,eval e env)::starEach es env)).any (·.1)=(backTo pos (starEach es env)).any (·.1):=.inr (by unfold backTo;simp);rcases e1 with q|q
 .rw[q,L6,h];rfl
 .rw[q];exact h
end
section
variable{P:Program}{w:World}{K:Fg}{mg:Str->Option Value}
theorem Fun.okM{base:Heap}{x:Str}{st:Stmt}{N ps:List Str}{k:Nat}{b:SF}{f:Addr}{fd:FuncData}(F:Fun K x x st f fd)(S:aT N ps (aH st))
 (hbody:∀(f:Addr)(cdv:Value)(A:Around)(outer:List Env)(s:Shared)(H:Hp)(E:XK),cB k (A.deeper (envOfC x (aH st) s.heap.objs.size f cdv))->
  ∃t,PSs (nR CX0 P w K mg base N x (aH st) f cdv A outer s H E).nox (bQ st) t/\SS K t b):jF P w K mg base CX0 (k+1) f fd ps (spM K (fnF ps.length N.length b)):=by
 have len:∀vs H Q E,spM K (fnF ps.length N.length b) vs H Q E->vs.length=ps.length:=fun vs H Q E h=>by
  obtain⟨xs,M,W,y,M',G,R,hf,_⟩:=h;by_cases hl:xs.length=ps.length
  .rw[<- Paired.len R];exact hl
  .unfold fnF at hf;rw[A5 hl]at hf;cases hf
 refine F.ok S len fun cdv A outer s H vs Q E hr h=>?_;obtain⟨t,hP,hS⟩:=hbody f cdv A outer s H E hr;refine⟨t,hP,?_⟩;obtain⟨xs,M,W,y,M',G,R,hf,k⟩:=h;by_cases hl:xs.length=ps.length
 .unfold fnF at hf;rw[A3 hl]at hf;obtain⟨⟨o,M1⟩,h1,hf⟩:=aG hf
  have hR:cQ K W (xs.map some++List.replicate (N.length-xs.length) none) (start N vs):=by
   unfold start;rw[<- Paired.len R];exact Paired.app (bU.some R) (rJ _)
  refine hS _ _ _ _ h1 W H _ _ G hR fun W1 H1 e1 G1=>?_;cases o with
  |rt x=>cases hf;exact fun v r=>k v W1 H1 e1 G1 r
  |nx γ=>cases hf;exact fun σ r=>k .non W1 H1 e1 G1 rfl
  |bk γ=>cases hf
  |ct γ=>cases hf
 .unfold fnF at hf;rw[A5 hl]at hf;cases hf
theorem Def.okL{x p:Str}{st:Stmt}{N:List Str}{k:Nat}{b:SF}{F:FN}(D:Def K mg x st)(S:aT N [p] (aH st))(hF:F=fnF 1 N.length b)
 (hb:∀(kV doc pm:Value)(an:Option Addr)(cdv ct:Value)(us:List Value),us.length=[p].length->bindArgs (PySem.W.fnOf x x (dW st) (bQ st) (aH st) .none kV doc pm an cdv ct) ⟨us,[]⟩=pure ([p].zip us))
 (hbody:∀(base:Heap)(f:Addr)(cdv:Value)(A:Around)(outer:List Env)(s:Shared)(H:Hp)(E:XK),cB k (A.deeper (envOfC x (aH st) s.heap.objs.size f cdv))->
  ∃t,PSs (nR CX0 P w K mg base N x (aH st) f cdv A outer s H E).nox (bQ st) t/\SS K t b):
 ∃f fd,mg x=some (.ref f)/\(∀(s:Shared)(u:Value),BindsTo s fd ⟨[u],[]⟩ [(p,u)])/\∀base,jF P w K mg base CX0 (k+1) f fd [p] (spM K F):=by
 subst hF;obtain⟨f,fd,Fu,m⟩:=D.ex;refine⟨f,fd,m,fun s u=>?_,fun base=>Fu.okM S (hbody base)⟩;obtain⟨oc,od,kV,doc,pm,an,cdv,ct,osl,rfl,lk,hcd⟩:=Fu.ex;exact .of_eq (hb kV doc pm an cdv ct [u] rfl)
theorem LP{H:Hp}:∀ns:List Int,aJ K H (ns.map .int) (ns.map V.int)
 |[]=>rfl
 |n::ns=>⟨.int n,ns.map V.int,rfl,rfl,LP ns⟩
theorem aGF{F:FN}(hF:∀ns:List Int,ns.length<=63->∃M',F [.d (.list (ns.map .int))] []=some (.d (.bool true),M')){a:Addr}{ns:List Int}(hl:ns.length<=63)(hS:SqL K H a (ns.map V.int))(E:XK):
 spM K F [.ref a] H (fun v _=>v=.bl true) E:=by
 obtain⟨M',h⟩:=hF ns hl;refine⟨[.d (.list (ns.map .int))],[],⟨H,fun _=>0,0⟩,_,M',⟨jO.refl H,rfl,fun i c h=>by simp at h,fun i j c c' h=>by simp at h⟩,.cons (show ∃a' vs,V.ref a=.ref a'/\SqL K H a' vs/\aJ K H (ns.map .int) vs from⟨a,ns.map V.int,rfl,hS,LP ns⟩) .nil,h,fun v W' H' _ _ r=>r⟩
theorem law_walk{l:PySem.W.OpenLaw}{q:Program}{loose:List Str}{XP:(Str->Option Value)->Heap->Prop}{YP:World->Heap->Prop}{d:DefRec}{K:Params->Fg}{F:FN}{k:Nat}{p:Str}(hq:PyProof.Rows.importsNone q=true)(hn:l.most=some 63)(hdf:d.params.defaults=[])(hr:cB k callerA)
 (hY:∀(w:World)(h:Heap),YP w h->(K w.params).In h)
 (hT:∀(w:World)(mg:Str->Option Value)(h:Heap),(K w.params).In h->h.Ns mainGlobals mg->∃f fd,mg d.name=some (.ref f)/\(∀(s:Shared)(u:Value),BindsTo s fd ⟨[u],[]⟩ [(p,u)])/\∀base,jF l.prog w (K w.params) mg base CX0 k f fd [p] (spM (K w.params) F))
 (hF:∀ns:List Int,ns.length<=63->∃M',F [.d (.list (ns.map .int))] []=some (.d (.bool true),M')):
 PySem.W.WalkO q loose XP YP l.row.toRowW d [] (fun f vs=>PySem.call f vs):=
 L2.walk_of hq (n:=63) (k:=k) (x:=p) (CX:=fun _=>CX0) (sp:=fun w=>spM (K w.params) F) hn (by decide) hdf hr hY
  (fun w mg fa h KX G hmg=>by
   obtain⟨f,fd,m,hb,hf⟩:=hT w mg h KX G;have e:(some (Value.ref f))=some (.ref fa):=m.symm.trans hmg;cases e;exact⟨fd,hb,fun base _ _=>hf base⟩)
  (fun w H a ns hl _ hS=>aGF hF hl hS _) fun _ _ _ _ _ z=>z
end
noncomputable def PQ(e:Expr)(es:List Expr):Prop:=∀env:Env,starEach (e::es) env=(false,eval e env)::starEach es env
noncomputable def LZ:List Expr->Prop
 |[]=>True
 |e::es=>PQ e es/\LZ es
theorem LZ.plain:∀{es:List Expr},LZ es->∀(env:Env)(pos:Pos),(backTo pos (starEach es env)).any (·.1)=false
 |[]=>fun _ _ _=>rfl
 |_::_=>fun h env pos=>mG (h.1 env) (h.2.plain env pos)
section
variable{ι:Type}
structure ME(K:Fg)(X:ι->Cx)(e:Expr)(f:EF):Prop where
 ex:∃t,(∀i,PE (X i) e t)/\SE K t f
structure MT(K:Fg)(X:ι->Cx)(e:Expr)(f:TF):Prop where
 ex:∃t,(∀i,PT (X i) e t)/\STt K t f
structure MW(K:Fg)(X:ι->Cx)(e:Expr)(f:TF):Prop where
 ex:∃t,(∀i,PW (X i) e t)/\STt K t f
structure MA(K:Fg)(X:ι->Cx)(es:List Expr)(f:AF):Prop where
 ex:∃t,(∀i,PA (X i) es t)/\SA K t f
 st:LZ es
structure MG(K:Fg)(X:ι->Cx)(e:Expr)(f:GF):Prop where
 ex:∃t,(∀i,PG (X i) e t)/\SG K t f
structure MGs(K:Fg)(X:ι->Cx)(es:List Expr)(f:GsF):Prop where
 ex:∃t,(∀i,PGs (X i) es t)/\SGs K t f
structure MI(K:Fg)(X:ι->Cx)(tg e:Expr)(f:AF):Prop where
 ex:∃t,(∀i,PI (X i) tg e t)/\SI K t f
structure MF(K:Fg)(X:ι->Cx)(es:List Expr)(f:TF):Prop where
 ex:∃t,(∀i,NT (X i) es t)/\STt K t f
structure MS(K:Fg)(X:ι->Cx)(st:Stmt)(f:SF):Prop where
 ex:∃t,(∀i,PS (X i) st t)/\SS K t f
structure ML(K:Fg)(X:ι->Cx)(st:List Stmt)(f:SF):Prop where
 ex:∃t,(∀i,PSs (X i) st t)/\SS K t f
structure Q2(K:Fg)(X:ι->Cx)(o:Value->Value->Sem Value)(h:F2):Prop where
 ex:∃r,(∀i,OpR (X i) o r)/\P2 K r h
structure Q1(K:Fg)(X:ι->Cx)(o:Value->Sem Value)(h:F1):Prop where
 ex:∃r,(∀i,UnR (X i) o r)/\P1 K r h
structure QN(K:Fg)(X:ι->Cx)(f:Value)(h:FN):Prop where
 ex:∃r,(∀i,gO (X i) f r)/\PN K r h
structure QI(K:Fg)(X:ι->Cx)(h:F2):Prop where
 ex:∃r,(∀i,IxR (X i) r)/\P2 K r h
structure QS(K:Fg)(X:ι->Cx)(h:F3):Prop where
 ex:∃r,(∀i,aHG (X i) r)/\P3 K r h
variable{K:Fg}{X:ι->Cx}{a b c e:Expr}{es:List Expr}{f g h:EF}{ft gt:TF}{fa:AF}{pos:Pos}
theorem aC(i:Nat){x:Str}(hN:∀j,(X j).N[i]?=some x:=by intro _;rfl)(hv:∀j,Vis (X j).env.scope x:=by intro _;first|exact Or.inl rfl|exact Or.inr (Or.inl rfl)|exact Or.inr (Or.inr rfl))(hd:(x==("__debug__":Str))=false:=by decide)(hcd:(x==("__classdict__":Str))=false:=by decide):
 ME K X (.Name x pos) (aD i):=⟨_,fun j=>aHy (hN j) (hv j) hd hcd,aIm⟩
theorem aF{i:Int}{j:Nat}:ME K X (.Constant (.int i) j pos) (fC (.int i)):=⟨_,fun _=>aHg,ZX⟩
theorem eG{i:Bool}{j:Nat}:ME K X (.Constant (.bool i) j pos) (fC (.bool i)):=⟨_,fun _=>aJG,aIZ⟩
theorem yK{j:Nat}:ME K X (.Constant .none j pos) (fC .none):=⟨_,fun _=>aIF,aGi⟩
theorem eN{i:Str}{j:Nat}:ME K X (.Constant (.str i) j pos) (fC (.str i)):=⟨_,fun _=>aGP,aGe⟩
theorem tE{x:Str}{n:Int}(hm:∀i,∃t:Tok,(X i).mg x=some (.int n t))(hg:∀i,Gl (X i) x:=by intro _;rfl)(hd:(x==("__debug__":Str))=false:=by decide):ME K X (.Name x pos) (fC (.int n)):=
 ⟨_,fun i=>TM (v:=.int n) (hg i) (hm i).choose_spec ⟨_,rfl⟩ hd,ZX⟩
theorem bC{op:Operator}{k:F2}(q:Q2 K X (binaryOp op) k)(x:ME K X a f)(y:ME K X b g):ME K X (.BinOp a op b pos) (fOp k f g):=by
 sleep 15;exact⟨_,fun i=>aJJ (q1 i) (x1 i) (y1 i),UI q2 x2 y2⟩
theorem aAu{op:UnaryOp}{k:F1}(q:Q1 K X (unaryOp op) k)(x:ME K X a f):ME K X (.UnaryOp op a pos) (fUn k f):=by
 obtain⟨r,q1,q2⟩:=q.ex;obtain⟨t,x1,x2⟩:=x.ex;exact⟨_,fun i=>aJM (q1 i) (x1 i),aJN q2 x2⟩
theorem dC{rest:List Expr}(x:ME K X a f)(y:ME K X (.BoolOp .And (b::rest) pos) g):ME K X (.BoolOp .And (a::b::rest) pos) (kD f g):=by
 sleep 4;exact⟨_,fun i=>aHu (x1 i) (y1 i),aHS x2 y2⟩
theorem aJj{rest:List Expr}(x:ME K X a f)(y:ME K X (.BoolOp .Or (b::rest) pos) g):ME K X (.BoolOp .Or (a::b::rest) pos) (fOr f g):=by
 sleep 4;exact⟨_,fun i=>aJd (x1 i) (y1 i),aJY x2 y2⟩
theorem eO{op:BoolOp}(x:ME K X a f):ME K X (.BoolOp op [a] pos) f:=by
 sleep 2;exact⟨_,fun i=>aGG (x1 i),x2⟩
theorem nJ(x:ME K X a f):ME K X (.UnaryOp .Not a pos) (DX f):=by
 sleep 2;exact⟨_,fun i=>aGx (x1 i),aFT x2⟩
theorem gF{op:CmpOp}{k:F2}(q:Q2 K X (compareOp op) k)(x:ME K X a f)(y:ME K X b g)(hm:behindInMarks op b=false:=by rfl):ME K X (.Compare a [op] [b] pos) (fOp k f g):=by
 sleep 15;exact⟨_,fun i=>aEK (q1 i) (x1 i) (y1 i) hm,UI q2 x2 y2⟩
theorem LL{op op':CmpOp}{k k':F2}(q:Q2 K X (compareOp op) k)(q':Q2 K X (compareOp op') k')(x:ME K X a f)(y:ME K X b g)(z:ME K X c h)(hm:lastMarks [op,op'] [b,c]=false:=by with_unfolding_all rfl):ME K X (.Compare a [op,op'] [b,c] pos) (BR k k' f g h):=by
 obtain⟨r,q1,q2⟩:=q.ex;obtain⟨r',q1',q2'⟩:=q'.ex;obtain⟨t,x1,x2⟩:=x.ex;obtain⟨u,y1,y2⟩:=y.ex;obtain⟨v,z1,z2⟩:=z.ex;exact⟨_,fun i=>ZY (q1 i) (q1' i) (x1 i) (y1 i) (z1 i) hm,aBr q2 q2' x2 y2 z2⟩
theorem aAX(x:MT K X c ft)(y:ME K X a f)(z:ME K X b g):ME K X (.IfExp c a b pos) (fIf ft f g):=by
 sleep 7;exact⟨_,fun i=>OA (x1 i) (y1 i) (z1 i),aJk x2 y2 z2⟩
theorem aE:MA K X [] aI:=⟨⟨_,fun _=>yV,aHC⟩,trivial⟩
theorem aA(x:ME K X e f)(y:MA K X es fa)(hs:PQ e es:=by intro _;rfl):MA K X (e::es) (aB f fa):=by
 sleep 4;exact⟨⟨_,fun i=>hZ (x1 i) (y1 i) (hs _),aDT x2 y2⟩,hs,y.st⟩
theorem aZ{k:Nat}(x:MA K X es fa):ME K X (.Tuple es k pos) (cK fa):=by
 sleep 2;exact⟨_,fun i=>BP (x1 i),aGb x2⟩
theorem fP(x:MA K X es fa):ME K X (.List es pos) (lM fa):=by
 sleep 2;exact⟨_,fun i=>YI (x1 i),aGR x2⟩
theorem QV(x:MA K X es fa):ME K X (.List es pos) (wG fa):=by
 sleep 2;exact⟨_,fun i=>YI (x1 i),aHx x2⟩
theorem bN{k:F2}(q:QI K X k)(x:ME K X a f)(y:ME K X b g)(hs:UG b:=by intro _ _;rfl):ME K X (.Subscript a b pos) (fOp k f g):=by
 sleep 15;exact⟨_,fun i=>aIY (q1 i) (x1 i) (y1 i) hs,UI q2 x2 y2⟩
theorem aM{k:Nat}{x:Str}{ps:List Str}{F:FN}{p:Pos}{q:Bool}(C:∀i,Callee (X i).prog (X i).w (X i).K (X i).mg (X i).base k x ps (spM K F) q)(hr:∀i,cB k (X i).A q)(y:MA K X (e::es) fa)(hg:∀i,Gl (X i) x:=by intro _;rfl)(hd:(x==("__debug__":Str))=false:=by decide):
 ME K X (.Call (.Name x p) (e::es) [] pos) (aK F fa):=by
 obtain⟨u,y1,y2⟩:=y.ex;exact⟨_,fun i=>aFV (C i) (hr i) (y1 i) (hg i) hd (y.st.1 _) (y.st.2.plain _ _),aEa y2⟩
theorem bW{x:Str}{id:String}{F:FN}{p:Pos}(q:QN K X (.builtin id) F)(hm:∀i,(X i).mg x=none)(hv:bootBuiltins x=some (.builtin id))(y:MA K X (e::es) fa)(hg:∀i,Gl (X i) x:=by intro _;rfl)(hn:x≠"__name__":=by decide)(hd:(x==("__debug__":Str))=false:=by decide):
 ME K X (.Call (.Name x p) (e::es) [] pos) (aK F fa):=by
 obtain⟨r,q1,q2⟩:=q.ex;obtain⟨u,y1,y2⟩:=y.ex;exact⟨_,fun i=>sP (q1 i) (hg i) (hm i) hv (y1 i) hn hd (y.st.1 _) (y.st.2.plain _ _),aFk q2 y2⟩
theorem fF{x:Str}{id:String}{F:FN}{p:Pos}(q:QN K X (.type id) F)(hm:∀i,(X i).mg x=none)(hv:bootBuiltins x=some (.type id))(y:MA K X (e::es) fa)(hg:∀i,Gl (X i) x:=by intro _;rfl)(hn:x≠"__name__":=by decide)(hd:(x==("__debug__":Str))=false:=by decide):
 ME K X (.Call (.Name x p) (e::es) [] pos) (aK F fa):=by
 obtain⟨r,q1,q2⟩:=q.ex;obtain⟨u,y1,y2⟩:=y.ex;exact⟨_,fun i=>UZ (q1 i) (hg i) (hm i) hv (y1 i) hn hd (y.st.1 _) (y.st.2.plain _ _),aFk q2 y2⟩
theorem yJ{T:String}{y:Str}{p p':Pos}(hK:∀i,(X i).K=K)(hT:T∈asked)(x:ME K X a f)(hs:PQ a [.Name y p'])(hm:∀i,(X i).mg "isinstance"=none)(hmy:∀i,(X i).mg y=none)(hb:bootBuiltins y=some (.type T))(hg:∀i,Gl (X i) "isinstance":=by intro _;rfl)(hgy:∀i,Gl (X i) y:=by intro _;rfl)
 (hn:y≠"__name__":=by decide) (hd:(y==("__debug__":Str))=false:=by decide):ME K X (.Call (.Name "isinstance" p) [a,.Name y p'] [] pos) (IW T f):=by
 sleep 2;refine⟨_,fun i=>sP (aJS (hK i)) (hg i) (hm i) boot_isinstance (hZ (x1 i) (hZ (xP (v:=.ty T) (hgy i) (hmy i) hb rfl hn hd) yV aY) (hs _)) (by decide) (by decide) (hs _) (mG aY tZ),aFH hT x2⟩
theorem fY(x:MT K X a ft):MT K X (.UnaryOp .Not a pos) (pB ft):=by
 sleep 2;exact⟨_,fun i=>aGk (x1 i),aGD x2⟩
theorem aBm{rest:List Expr}(x:MT K X a ft)(y:MW K X (.BoolOp .And (b::rest) pos) gt):MW K X (.BoolOp .And (a::b::rest) pos) (ZL ft gt):=by
 sleep 4;exact⟨_,fun i=>aHs (x1 i) (y1 i),aGJ x2 y2⟩
theorem SB(x:MT K X a ft):MW K X (.BoolOp .And [a] pos) ft:=by
 sleep 2;exact⟨_,fun i=>aEx (x1 i),x2⟩
theorem mO{rest:List Expr}(x:MT K X a ft)(y:MW K X (.BoolOp .Or (b::rest) pos) gt):MW K X (.BoolOp .Or (a::b::rest) pos) (gOr ft gt):=by
 sleep 4;exact⟨_,fun i=>aJu (x1 i) (y1 i),aKl x2 y2⟩
theorem nN(x:MT K X a ft):MW K X (.BoolOp .Or [a] pos) ft:=by
 sleep 2;exact⟨_,fun i=>aGZ (x1 i),x2⟩
theorem AK(x:MW K X a ft):MT K X a ft:=by
 sleep 2;exact⟨_,fun i=>(x1 i).pt,x2⟩
theorem bM{op:CmpOp}{k:F2}(q:Q2 K X (compareOp op) k)(x:ME K X a f)(y:ME K X b g)(hm:behindInMarks op b=false:=by rfl):MT K X (.Compare a [op] [b] pos) (gB (fOp k f g)):=by
 sleep 15;exact⟨_,fun i=>aEL (q1 i) (x1 i) (y1 i) hm,aDm (UI q2 x2 y2)⟩
theorem eM(x:ME K X a f)(he:∀(env:Env)(whole:Sem Value),isTrue a env whole=(do let v <- whole;standAt a.pos;holding [v] (truthy v)):=by intro _ _;rfl):MT K X a (gB f):=by
 sleep 2;exact⟨_,fun i=>aGt (x1 i) (he _),aGf x2⟩
theorem aCg(hK:∀i,(X i).K=K)(x:ME K X a f)(he:∀(env:Env)(whole:Sem Value),isTrue a env whole=(do let v <- whole;standAt a.pos;holding [v] (truthy v)):=by intro _ _;rfl):MT K X a (IS f):=by
 sleep 2;exact⟨_,fun i=>aDu (hK i) (x1 i) (he _),aED x2⟩
theorem tR{tg:Expr}{p:Pos}(hm:∀i,(X i).mg "range"=none)(x:MA K X [a] fa)(hg:∀i,Gl (X i) "range":=by intro _;rfl):MI K X tg (.Call (.Name "range" p) [a] [] pos) (kH fa):=by
 sleep 2;exact⟨_,fun i=>VG (hg i) (hm i) (x1 i) (x.st.1 _),aEH x2⟩
theorem iZ{tg:Expr}(hK:∀i,(X i).K=K)(x:ME K X a f):MI K X tg a (cP f):=by
 sleep 2;exact⟨_,fun i=>IP (hK i) (x1 i),aHl x2⟩
theorem bE(i:Nat){x:Str}(hN:∀j,(X j).N.Nodup)(hi:∀j,(X j).N[i]?=some x:=by intro _;rfl)(hx:∀j,Loc (X j).env.scope x:=by intro _;first|exact Or.inl rfl|exact Or.inr rfl)(hf:∀j,(X j).fn x=true\/(X j).env.scope.names.lookup x=some .local:=by intro _;first|exact .inl rfl|exact .inr rfl):
 MG K X (.Name x pos) (hName i):=⟨_,fun j=>aDy (hN j) (hi j) (hx j) (hf j),AW⟩
theorem mW:MGs K X [] kO:=⟨_,fun _=>aCM,aEN⟩
theorem cO{gf:GF}{gs:GsF}(x:MG K X e gf)(y:MGs K X es gs)(hs:∀env:Env,(assignEach (e::es) env).map (·.2)=assign e env::(assignEach es env).map (·.2):=by intro _;rfl):MGs K X (e::es) (bL gf gs):=by
 sleep 4;exact⟨_,fun i=>aBo (x1 i) (y1 i) (hs _),ZH x2 y2⟩
theorem wC{gs:GsF}{k n:Nat}(hK:∀i,(X i).K=K)(hc:∀i,(X i).calm=true)(x:MGs K X es gs)(hn:∀env:Env,(assignEach es env).length=n:=by intro _;rfl)(hst:∀env:Env,(assignEach es env).findIdx? (·.1)=none:=by intro _;rfl):MG K X (.Tuple es k pos) (qP n gs):=by
 sleep 2;exact⟨_,fun i=>UE (hK i) (hc i) (x1 i) (hn _) (hst _),aHD x2⟩
theorem YX{s:F3}(q:QS K X s)(x:ME K X a f)(y:ME K X b g) (hs:∀(env:Env)(v:Value),assign (.Subscript a b pos) env v=(do
 let ov <- holding [v] (eval a env);let iv <- holding [v,ov] (eval b env)
 standAt pos
 holding [v,ov,iv] (setItem ov iv v)
 release [v,ov,iv] []):=by intro _ _;rfl):MG K X (.Subscript a b pos) (hSub f g s):=by
 sleep 15;exact⟨_,fun i=>aIx (x1 i) (y1 i) (q1 i) (hs _),aIp q2 x2 y2⟩
theorem nX:MF K X [] iD:=⟨_,fun _=>aAY,aIj⟩
theorem CQ(x:MT K X c ft):MF K X [c] ft:=by
 sleep 2;exact⟨_,fun i=>aBG (x1 i),x2⟩
noncomputable abbrev LcI(ι:Type):Type:=ι×Addr×Shared×Hp×List Addr×List (Addr×Obj)
noncomputable def kX(X:ι->Cx)(N':List Str)(scope:Scope):LcI ι->Cx:=fun j=>gE (X j.1) N' scope j.2.1 j.2.2.1 j.2.2.2.1 j.2.2.2.2.1 j.2.2.2.2.2
variable{N':List Str}{cap:List (Option Nat)}{scope:Scope}{tg iter elt:Expr}{ifs:List Expr}{gf:GF}
theorem BY(hc:∀i,(X i).calm=true)(S:∀i,rC (X i) N' cap scope)(x:MI K X tg iter fa)(y:MG K (kX X N' scope) tg gf)(z:MF K (kX X N' scope) ifs ft)(w:ME K (kX X N' scope) elt f)(hs:∀(env:Env)(x:Value),foldedSetIterable iter env x=pure x:=by intro _ _;rfl):
 ME K X (.ListComp elt [⟨tg,iter,ifs,0⟩] scope pos) (fLc cap fa gf ft f):=by
 sleep 14;exact⟨_,fun i=>aAV (hc i) (S i) (x1 i) (fun C s H fp pn=>y1 (i,C,s,H,fp,pn)) (fun C s H fp pn=>z1 (i,C,s,H,fp,pn)) (fun C s H fp pn=>w1 (i,C,s,H,fp,pn)) (hs _),aFz x2 y2 z2 w2⟩
theorem aGM(hc:∀i,(X i).calm=true)(S:∀i,rC (X i) N' cap scope)(x:MI K X tg iter fa)(y:MG K (kX X N' scope) tg gf)(z:MF K (kX X N' scope) ifs ft)(w:ME K (kX X N' scope) elt f)(hs:∀(env:Env)(x:Value),foldedSetIterable iter env x=pure x:=by intro _ _;rfl):
 ME K X (.ListComp elt [⟨tg,iter,ifs,0⟩] scope pos) (WK cap fa gf ft f):=by
 sleep 14;exact⟨_,fun i=>aAV (hc i) (S i) (x1 i) (fun C s H fp pn=>y1 (i,C,s,H,fp,pn)) (fun C s H fp pn=>z1 (i,C,s,H,fp,pn)) (fun C s H fp pn=>w1 (i,C,s,H,fp,pn)) (hs _),aHi x2 y2 z2 w2⟩
theorem sX(i:Nat){x':Str}{pos' pos'':Pos}(hN:∀j,(X j).N.Nodup)(hc:∀i,(X i).calm=true)(S:∀i,rC (X i) N' cap scope)(x:MI K X tg iter fa)(y:MG K (kX X N' scope) tg gf)(z:MF K (kX X N' scope) ifs ft)(w:ME K (kX X N' scope) elt f)
 (hix:∀j,(X j).N[i]?=some x':=by intro _;rfl) (hsw:∀j,swapsWith (.ListComp elt [⟨tg,iter,ifs,0⟩] scope pos) (some (.Name x' pos')) pos''.line (X j).env=pure true:=by intro _;rfl) (hx:∀j,(X j).env.scope.names.lookup x'=some .local:=by intro _;rfl) (hs:∀(env:Env)(x:Value),foldedSetIterable iter env x=pure x:=by intro _ _;rfl):
 MS K X (.Assign [.Name x' pos'] (.ListComp elt [⟨tg,iter,ifs,0⟩] scope pos) pos'') (dA (fLc cap fa gf ft f) (hName i)):=by
 sleep 14;exact⟨_,fun j=>ZJ (hN j) (hix j) (hc j) (S j) (x1 j) (fun C s H fp pn=>y1 (j,C,s,H,fp,pn)) (fun C s H fp pn=>z1 (j,C,s,H,fp,pn)) (fun C s H fp pn=>w1 (j,C,s,H,fp,pn)) (hsw j) (hx j) (hs _),PF (aFz x2 y2 z2 w2) AW⟩
variable{st:Stmt}{sts:List Stmt}{sf sg:SF}
theorem bV:ML K X [] cS:=⟨_,fun _=>aEC,aDH⟩
theorem aP(x:MS K X st sf):ML K X [st] sf:=by
 sleep 2;exact⟨_,fun i=>SW (x1 i),x2⟩
theorem aN(x:MS K X st sf)(y:ML K X sts sg):ML K X (st::sts) (bO sf sg):=by
 sleep 4;exact⟨_,fun i=>OQ (x1 i) (y1 i),aFL x2 y2⟩
theorem aV(x:ME K X e f):MS K X (.Return (some e) pos) (cD f):=by
 sleep 2;exact⟨_,fun i=>aCa (x1 i),aFZ x2⟩
theorem xF(x:ME K X e f)(hs:∀i,swapsWith e none pos.line (X i).env=pure false:=by intro _;rfl):MS K X (.Expr e pos) (zX f):=by
 sleep 2;exact⟨_,fun i=>aDN (x1 i) (hs i),aDI x2⟩
theorem dX{sts':List Stmt}(x:MT K X c ft)(y:ML K X sts sf)(z:ML K X sts' sg):MS K X (.If c sts sts' pos) (sIf ft sf sg):=by
 sleep 7;exact⟨_,fun i=>aFm (x1 i) (y1 i) (z1 i),aJZ x2 y2 z2⟩
theorem MB(hp:∀i,PassesOwn (model (X i).prog (X i).w) (X i).A (X i).env (X i).xe)(x:MT K X c ft)(y:ML K X sts sf):MS K X (.While c sts [] pos) (vN ft sf):=by
 sleep 4;exact⟨_,fun i=>aAh (hp i) (x1 i) (y1 i),aAI x2 y2⟩
theorem vK(hp:∀i,PassesOwn (model (X i).prog (X i).w) (X i).A (X i).env (X i).xe)(hc:∀i,(X i).calm=true)(x:MI K X tg iter fa)(y:MG K X tg gf)(z:ML K X sts sf)(hs:∀(env:Env)(x:Value),foldedSetIterable iter env x=pure x:=by intro _ _;rfl):MS K X (.For tg iter sts [] pos) (uC fa gf sf):=by
 sleep 7;exact⟨_,fun i=>PD (hp i) (hc i) (x1 i) (y1 i) (z1 i) (hs _),aGQ x2 y2 z2⟩
theorem bH(i:Nat){x':Str}{pos':Pos}(hN:∀j,(X j).N.Nodup)(x:ME K X e f)(hi:∀j,(X j).N[i]?=some x':=by intro _;rfl)(hx:∀j,Loc (X j).env.scope x':=by intro _;first|exact Or.inl rfl|exact Or.inr rfl)(hs:∀j,swapsWith e (some (.Name x' pos')) pos.line (X j).env=pure false:=by intro _;rfl)
 (hf:∀j,(X j).fn x'=true\/(X j).env.scope.names.lookup x'=some .local:=by intro _;first|exact .inl rfl|exact .inr rfl):MS K X (.Assign [.Name x' pos'] e pos) (dA f (hName i)):=by
 sleep 2;exact⟨_,fun j=>aAD (hN j) (hi j) (hx j) (x1 j) (hs j) (hf j),PF x2 AW⟩
theorem aCk(i j:Nat){x' y':Str}{px py pt pt2:Pos}{kt k2:Nat}(hc:∀j,(X j).calm=true)(hN:∀j,(X j).N.Nodup)(x:MA K X [a,b] fa)(hij:i≠j:=by decide)(hi:∀k,(X k).N[i]?=some x':=by intro _;rfl)(hj:∀k,(X k).N[j]?=some y':=by intro _;rfl)(hx:∀k,(X k).env.scope.names.lookup x'=some .local:=by intro _;rfl)(hy:∀k,(X k).env.scope.names.lookup y'=some .local:=by intro _;rfl)
 (h1:∀k,swappedStores [.Tuple [.Name x' px,.Name y' py] kt pt] (.Tuple [a,b] k2 pt2) (X k).env=pure (some [x',y']):=by intro _;rfl) (h2:∀k,swapsWithSole [.Tuple [.Name x' px,.Name y' py] kt pt] (.Tuple [a,b] k2 pt2) pos.line (X k).env=pure false:=by intro _;rfl):
 MS K X (.Assign [.Tuple [.Name x' px,.Name y' py] kt pt] (.Tuple [a,b] k2 pt2) pos) (LN i j fa):=by
 sleep 2;exact⟨_,fun k=>aGy (hc k) (hN k) (hi k) (hj k) hij (hx k) (hy k) (x1 k) (h1 k) (h2 k),aGl x2⟩
theorem aAH(x:ME K X e f)(y:MG K X tg gf)(h1:∀k,swapsWithSole [tg] e pos.line (X k).env=pure false:=by intro _;rfl)(h2:∀k,swappedStores [tg] e (X k).env=pure none:=by intro _;rfl)(h3:∀env:Env,(assignEach [tg] env).map (·.2)=[assign tg env]:=by intro _;rfl):MS K X (.Assign [tg] e pos) (dA f gf):=by
 sleep 4;exact⟨_,fun k=>aHj (x1 k) (y1 k) (h1 k) (h2 k) (h3 _),PF x2 y2⟩
theorem gX(hK:∀i,(X i).K=K:=by intro _;rfl):Q2 K X (binaryOp .Add) dP:=⟨_,fun i=>aKm (hK i),TU⟩
theorem uI:Q2 K X (binaryOp .Sub) pK:=⟨_,fun _=>aGm,aGO⟩
theorem LD:Q2 K X (binaryOp .Mult) OH:=⟨_,fun _=>aEP,aHb⟩
theorem RL:Q2 K X (binaryOp .FloorDiv) GB:=⟨_,fun _=>ZN,aEv⟩
theorem uZ:Q2 K X (binaryOp .Mod) uG:=⟨_,fun _=>aHY,aHV⟩
theorem zL:Q2 K X (binaryOp .Pow) xS:=⟨_,fun _=>aIl,aIr⟩
theorem aCq:Q1 K X (unaryOp .USub) FP:=⟨_,fun _=>aIg,aHN⟩
theorem FI:Q2 K X (compareOp .Lt) ltI:=⟨_,fun _=>aII,aIV⟩
theorem aAa:Q2 K X (compareOp .LtE) leI:=⟨_,fun _=>aIQ,aKa⟩
theorem OK:Q2 K X (compareOp .Gt) gtI:=⟨_,fun _=>aJV,aKk⟩
theorem aJU:Q2 K X (compareOp .GtE) geI:=⟨_,fun _=>aJT,aJa⟩
theorem qQ(hK:∀i,(X i).K=K)(hu:∀i,(X i).A.units+64<cLine):Q2 K X (compareOp .Eq) (eqX false):=⟨_,fun i=>kEq (hK i) (hu i),aGj⟩
theorem wF(hK:∀i,(X i).K=K)(hu:∀i,(X i).A.units+64<cLine):Q2 K X (compareOp .NotEq) (eqX true):=⟨_,fun i=>kNe (hK i) (hu i),aIa⟩
theorem aEp(hK:∀i,(X i).K=K)(hu:∀i,(X i).A.in1.units+64<cLine):Q2 K X (compareOp .NotIn) (inD true):=⟨_,fun i=>aFS (hK i) (hu i),aKj⟩
theorem dE(hK:∀i,(X i).K=K:=by intro _;rfl):QI K X ixF:=⟨_,fun i=>kIx (hK i),aHo⟩
theorem vC(hK:∀i,(X i).K=K:=by intro _;rfl):QN K X (.builtin "len") gP:=⟨_,fun i=>aKo (hK i),aDx⟩
theorem aGq(hK:∀i,(X i).K=K):QN K X (.type "list") mP:=⟨_,fun i=>aFB (hK i),aAG⟩
theorem qE(hK:∀i,(X i).K=K):QN K X (.type "tuple") eY:=⟨_,fun i=>aHT (hK i),WO⟩
theorem YV(hK:∀i,(X i).K=K)(hc:∀i,(X i).calm=true):QN K X (.builtin "all") CP:=⟨_,fun i=>aKn (hK i) (hc i),aES⟩
theorem aFA:QS K X JD:=⟨_,fun _=>set_list,aIs⟩
end
section
variable{P:Program}{w:World}{K:Fg}{mg:Str->Option Value}
theorem Def.okG{base:Heap}{x:Str}{st:Stmt}{N ps:List Str}{k:Nat}{b:SF}{q:Bool}(D:Def K mg x st)(S:aT N ps (aH st))
 (hb:∀(kV doc pm:Value)(an:Option Addr)(cdv ct:Value)(us:List Value),us.length=ps.length->bindArgs (PySem.W.fnOf x x (dW st) (bQ st) (aH st) .none kV doc pm an cdv ct) ⟨us,[]⟩=pure (ps.zip us))
 (hbody:∀(f:Addr)(cdv:Value)(A:Around)(outer:List Env)(s:Shared)(H:Hp)(E:XK),cB k (A.deeper (envOfC x (aH st) s.heap.objs.size f cdv)) q->
  ML K (fun _:Unit=>(nR CX0 P w K mg base N x (aH st) f cdv A outer s H E q).nox) (bQ st) b):Callee P w K mg base (k+1) x ps (spM K (fnF ps.length N.length b)) q:=
 D.okM S hb fun f cdv A outer s H E hr=>by
  obtain⟨t,h1,h2⟩:=(hbody f cdv A outer s H E hr).ex;exact⟨t,h1 (),h2⟩
theorem Def.okLG{x p:Str}{st:Stmt}{N:List Str}{k:Nat}{b:SF}{F:FN}(D:Def K mg x st)(S:aT N [p] (aH st))(hF:F=fnF 1 N.length b)
 (hb:∀(kV doc pm:Value)(an:Option Addr)(cdv ct:Value)(us:List Value),us.length=[p].length->bindArgs (PySem.W.fnOf x x (dW st) (bQ st) (aH st) .none kV doc pm an cdv ct) ⟨us,[]⟩=pure ([p].zip us))
 (hbody:∀(base:Heap)(f:Addr)(cdv:Value)(A:Around)(outer:List Env)(s:Shared)(H:Hp)(E:XK),cB k (A.deeper (envOfC x (aH st) s.heap.objs.size f cdv))->
  ML K (fun _:Unit=>(nR CX0 P w K mg base N x (aH st) f cdv A outer s H E).nox) (bQ st) b):
 ∃f fd,mg x=some (.ref f)/\(∀(s:Shared)(u:Value),BindsTo s fd ⟨[u],[]⟩ [(p,u)])/\∀base,jF P w K mg base CX0 (k+1) f fd [p] (spM K F):=
 D.okL S hF hb fun base f cdv A outer s H E hr=>by
  obtain⟨t,h1,h2⟩:=(hbody base f cdv A outer s H E hr).ex;exact⟨t,h1 (),h2⟩
end
end L2
namespace HT
open PySem PyProof.Rows PySem.Spec
section
variable{prog:Program}{w:World}{A:Around}{E:Value->Shared->Prop}{s:Shared}
theorem getItem_tuple_whole{t sl:Addr}{items:Array Value}{vl vu:Value}{lo hi:Option Int}{Q:Value->Shared->Prop}(ht:IsTup s.heap t items)(hs:s.heap.IsSliceOf sl vl vu .none)(pl:IsPart vl lo)(pu:IsPart vu hi)
 (hw:sIx items.size 0 lo=0/\sIx items.size items.size hi=items.size) (h:Q (.ref t) s):wpAny (model prog w) A (getItem (.ref t) (.ref sl)) Q E s:=by
 obtain⟨os,hos,hcs,hds⟩:=id hs;have hTs:s.TypeIs (.ref sl) "slice":=⟨os,hos,hcs⟩;unfold getItem
 try with_reducible refine E2 ?_
 first|refine A0 (A6 ?_)|skip
 refine A0 (wpAny_sequenceKey ht.typeIs (by decide) ?_)
 refine A0 (O5 (name:=Str.ofString "__getitem__") ht.typeIs L7
  (J3 L7 ht.typeIs entry_tuple_getitem ?_ (args_tuple_getitem _ _)))
 show wpAny _ _ (Builtin.Tuple.tupleItemsOf (.ref t) >>= _) _ _ s;refine A0 (tupleItemsOf_ ht ?_);refine A0 (wpAny_typeOf hTs ?_);rw[A3 (by decide)];refine A0 (oP hs pl pu ?_)
 have hyes:(((sIx items.size 0 lo:Nat):Int)==0&&(1:Int)==1&&(sIx items.size items.size hi-sIx items.size 0 lo)==items.size)=true:=by
  rw[hw.1,hw.2];simp
 show wpAny _ _ (if (((sIx items.size 0 lo:Nat):Int)==0&&(1:Int)==1&&(sIx items.size items.size hi-sIx items.size 0 lo)==items.size)=true then _ else _) _ _ s;rw[A3 hyes];refine A0 (m:=Builtin.Tuple.tupleIsExact (.ref t)) ?_;unfold Builtin.Tuple.tupleIsExact;refine A0 (wpAny_typeOf ht.typeIs (A6 ?_));rw[A3 (by decide)];exact A0 (wpAny_rule (A6 ⟨_,rfl,A6 h⟩))
end
end HT
namespace L2
variable{W:Wd}{M:Sto}{H:Hp}{K:Fg}{pos:Pos}
open PySem PySem.Spec PyProof.Rows
noncomputable def aJb(K:Fg):V->Option Int->Option Int->Hp->VK->Prop:=fun x lo hi H Q=>∃a xs,x=.ref a/\SqT K H a xs/\(HT.sIx xs.length 0 lo=0/\HT.sIx xs.length xs.length hi=xs.length)/\Q (.ref a) H
theorem aBT{X:Cx}:SlR X (aJb X.K):=by
 intro pins s σ H x v vl vu lo hi sl Q I rx hs pl pu h;obtain⟨a,xs,rfl,hx,hw,q⟩:=h;cases rx;obtain⟨its,r,ht,hz⟩:=I.tuple hx;have hlen:its.toArray.size=xs.length:=by rw[D0];exact r.length.symm
 refine⟨"tuple",_,PyProof.Rows.slot_tuple_getitem.lookup,ht.typeIs,?_⟩;exact HT.getItem_tuple_whole ht hs pl pu (by rw[hlen];exact hw) ⟨.ref a,H,I,rfl,q⟩
noncomputable def pD{α:Type}(xs:List α)(lo hi:Option Int):List α:=(xs.drop (HT.sIx xs.length 0 lo)).take (HT.sIx xs.length xs.length hi-HT.sIx xs.length 0 lo)
noncomputable abbrev OF:=Ga->Sto->Option (Option Int×Sto)
noncomputable def hX:OF:=fun _ M=>some (none,M)
noncomputable def asI:CD->Option Int
 |.d (.int i)=>some i
 |_=>none
noncomputable def qS(f:EF):OF:=fun γ M=>(f γ M).bind fun r=>(asI r.1).bind fun i=>some (some i,r.2)
noncomputable def slF(x:CD)(lo hi:Option Int)(M:Sto):Option (CD×Sto):=match x with
 |.d (.list ds)=>some (.d (.list (pD ds lo hi)),M)
 |.d (.tuple ds)=>some (.d (.tuple (pD ds lo hi)),M)
 |.c i=>match M[i]? with
  |some (.lst xs)=>(iQ (pD xs lo hi)).bind fun ds=>some (.d (.list ds),M)
  |_=>none
 |_=>none
noncomputable def fSl(f:EF)(l u:OF):EF:=fun γ M=>(f γ M).bind fun r=>(l γ r.2).bind fun p=>(u γ p.2).bind fun q=>slF r.1 p.1 q.1 q.2
noncomputable def aHa(K:Fg):V->Option Int->Option Int->Hp->VK->Prop:=fun x lo hi H Q=>aJm K x lo hi H Q\/aIL K x lo hi H Q\/aJb K x lo hi H Q
theorem kSl{X:Cx}(h:X.K=K):SlR X (aHa K):=by subst h;exact sl_list.or (sl_tup.or aBT)
section
variable{K:Fg}
noncomputable def SO(K:Fg)(t:TO)(f:OF):Prop:=∀γ M b M',f γ M=some (b,M')->∀(W:Wd)(H:Hp)(σ:St)(Q:Option Int->Hp->Prop),Good K W M H->cQ K W γ σ->(∀W' H',W.Ext W'->Good K W' M' H'->Q b H')->t σ H Q
theorem aCZ:SO K RY hX:=by
 sleep 0;cases hh;exact k W H (.refl _) G
theorem aHe{x:CD}{i:Int}(h:asI x=some i):x=.d (.int i):=by
 cases x with
 |c n=>cases h
 |t n=>cases h
 |f n=>cases h
 |d x=>cases x<;>first|cases h;rfl|cases h
theorem aCK{ta:TE}{f:EF}(a:SE K ta f):SO K (aFq ta) (qS f):=by
 sleep 0;sleep 3;obtain⟨i,h2,hh⟩:=aG hh;cases hh;sleep 1;have hy:y=_:=aHe h2;subst hy;exact⟨i,r1,k W1 H1 e1 G1⟩
theorem aJ.drop{H:Hp}:∀{ds:List PyData}{vs:List V}(n:Nat),aJ K H ds vs->aJ K H (ds.drop n) (vs.drop n)
 |_,_,0=>fun h=>h
 |[],vs,n+1=>fun h=>by rw[show vs=[]from h];rfl
 |d::ds,vs,n+1=>fun h=>by
  obtain⟨v,r,rfl,_,h3⟩:=h;exact aJ.drop n h3
theorem aJ.take{H:Hp}:∀{ds:List PyData}{vs:List V}(n:Nat),aJ K H ds vs->aJ K H (ds.take n) (vs.take n)
 |_,_,0=>fun h=>rfl
 |[],vs,n+1=>fun h=>by rw[show vs=[]from h];rfl
 |d::ds,vs,n+1=>fun h=>by
  obtain⟨v,r,rfl,h2,h3⟩:=h;exact⟨v,r.take n,rfl,h2,aJ.take n h3⟩
theorem aJ.cut{ds:List PyData}{vs:List V}(h:aJ K H ds vs)(lo hi:Option Int):aJ K H (pD ds lo hi) (yG vs lo hi):=by
 unfold pD yG;rw[h.length];exact(h.drop _).take _
theorem DL{α β:Type}{R:α->β->Prop}:∀{xs:List α}{ys:List β}(n:Nat),Paired R xs ys->Paired R (xs.drop n) (ys.drop n)
 |_,_,0,h=>h
 |_,_,_+1,.nil=>.nil
 |_,_,n+1,.cons _ t=>DL n t
theorem DV{α β:Type}{R:α->β->Prop}:∀{xs:List α}{ys:List β}(n:Nat),Paired R xs ys->Paired R (xs.take n) (ys.take n)
 |_,_,0,h=>.nil
 |_,_,_+1,.nil=>.nil
 |_,_,n+1,.cons r t=>.cons r (DV n t)
theorem VC{xs:List CD}{vs:List V}(h:bU K W xs vs)(lo hi:Option Int):bU K W (pD xs lo hi) (yG vs lo hi):=by
 unfold pD yG;rw[Paired.len h];exact DV _ (DL _ h)
theorem aBI{x:CD}{lo hi:Option Int}{z:CD}{M':Sto}(h:slF x lo hi M=some (z,M')){v:V}{Q:VK}(G:Good K W M H)(rx:cF K W x v)(k:∀w W' H',W.Ext W'->Good K W' M' H'->cF K W' z w->Q w H'):aHa K v lo hi H Q:=by
 unfold slF at h;split at h
 .rename_i ds;cases h;obtain⟨p,us,rfl,hq,hr⟩:=(show ∃a us,_=V.ref a/\SqL K W.F a us/\aJ K W.F ds us from rx);refine .inl ⟨p,us,rfl,G.fh.seq hq,fun l hl=>?_⟩;obtain⟨e2,G2⟩:=G.lay (o:=.lst (yG us lo hi)) hl;exact k _ _ _ e2 G2 ⟨l,_,rfl,SqL.of aR,aJ.same e2.ff _ _ (hr.cut lo hi)⟩
 .rename_i ds;cases h;obtain⟨p,us,rfl,hq,hr⟩:=(show ∃a us,_=V.ref a/\SqT K W.F a us/\aJ K W.F ds us from rx);by_cases hw:HT.sIx us.length 0 lo=0/\HT.sIx us.length us.length hi=us.length
  .refine .inr (.inr ⟨p,us,rfl,G.fh.seqT hq,hw,?_⟩)
   have e:pD ds lo hi=ds:=by
    unfold pD;rw[hr.length,hw.1,hw.2,<- hr.length];simp
   rw[e]at k;exact k _ W H (.refl _) G ⟨p,us,rfl,hq,hr⟩
  .refine .inr (.inl ⟨p,us,rfl,G.fh.seqT hq,hw,fun l hl=>?_⟩);obtain⟨e2,G2⟩:=G.lay (o:=.tup (yG us lo hi)) hl;exact k _ _ _ e2 G2 ⟨l,_,rfl,SqT.of aR,aJ.same e2.ff _ _ (hr.cut lo hi)⟩
 .rename_i i;split at h
  .rename_i xs hx;obtain⟨ds,h1,h⟩:=aG h;cases h;obtain⟨us,hv,hr⟩:=G.lstAt hx;rw[rx.2];refine .inl ⟨_,us,rfl,SqL.of hv,fun l hl=>?_⟩;obtain⟨e2,G2⟩:=G.lay (o:=.lst (yG us lo hi)) hl;exact k _ _ _ e2 G2 ⟨l,_,rfl,SqL.of aR,aJ.same e2.ff _ _ (dO h1 (VC hr lo hi))⟩
  .cases h
 .cases h
theorem aIW{ta:TE}{f:EF}{tl th:TO}{l u:OF}(a:SE K ta f)(b:SO K tl l)(c:SO K th u):SE K (tSl (aHa K) ta tl th) (fSl f l u):=by
 sleep 0;sleep 3;obtain⟨⟨p,M2⟩,h2,hh⟩:=aG hh;obtain⟨⟨q,M3⟩,h3,hh⟩:=aG hh;sleep 1;refine b _ _ _ _ h2 W1 H1 σ _ G1 (R.up e1) fun W2 H2 e2 G2=>?_;refine c _ _ _ _ h3 W2 H2 σ _ G2 (R.up (e1.trans e2)) fun W3 H3 e3 G3=>?_;exact aBI hh G3 (r1.up (e2.trans e3)) fun w W4 H4 e4 G4 r4=>k w W4 H4 (((e1.trans e2).trans e3).trans e4) G4 r4
noncomputable def IL:FN:=fun xs M=>match xs with
 |[.d (.int i)]=>some (.d (.int i),M)
 |[.d (.bool b)]=>some (.d (.int (if b then 1 else 0)),M)
 |_=>none
theorem aHK:PN K (fun xs H Q=>(∃i,xs=[.int i]/\Q (.int i) H)\/∃k,xs=[.bl k]/\Q (.int (if k then 1 else 0)) H) IL:=by
 intro xs M z M' h W H vs Q G r k;unfold IL at h;split at h
 .rename_i i;cases h;sleep 12;exact .inl ⟨i,by rw[show _=V.int i from r1],k _ W H (.refl _) G rfl⟩
 .rename_i b;cases h;sleep 12;exact .inr ⟨b,by rw[show _=V.bl b from r1],k _ W H (.refl _) G rfl⟩
 .cases h
noncomputable def tyB(T:String)(M:Sto):CD->Bool
 |.d (.list _)=>T=="list"
 |.d (.str _)=>T=="str"
 |.c i=>match M[i]? with
  |some (.lst _)=>T=="list"
  |some (.dk _)=>T=="dict"
  |some (.dt _)=>T=="dict"
  |_=>false
 |_=>false
theorem aGu{T:String}{x:CD}{v:V}(h:tyB T M x=true)(G:Good K W M H)(r:cF K W x v):tyV K T v H:=by
 unfold tyB at h;split at h
 .rename_i ds;obtain⟨p,us,rfl,hq,hr⟩:=(show ∃a us,_=V.ref a/\SqL K W.F a us/\aJ K W.F ds us from r);exact .inl ⟨eq_of_beq h,us,G.fh.seq hq⟩
 .rename_i x;rw[show v=.str x from r];exact eq_of_beq h
 .rename_i i;rw[r.2];split at h
  .rename_i xs hx;obtain⟨us,hv,hr⟩:=G.lstAt hx;exact .inl ⟨eq_of_beq h,us,SqL.of hv⟩
  .rename_i kvs hx;obtain⟨_,o,g2,g3⟩:=G.cs i _ hx (by intro z;cases z);cases o with
   |dK us=>exact .inr (.inr (.inl ⟨eq_of_beq h,.inl ⟨us,g2⟩⟩))
   |_=>exact False.elim g3
  .rename_i kvs hx;obtain⟨_,o,g2,g3⟩:=G.cs i _ hx (by intro z;cases z);cases o with
   |dT us=>exact .inr (.inr (.inl ⟨eq_of_beq h,.inr ⟨us,g2⟩⟩))
   |_=>exact False.elim g3
  .cases h
 .cases h
noncomputable abbrev FM:=CD->List CD->Sto->Option (CD×Sto)
noncomputable def zF(T:String)(h:FM)(f:EF)(fa:AF):EF:=fun γ M=>(f γ M).bind fun r=>if tyB T r.2 r.1=true then(fa γ r.2).bind fun q=>h r.1 q.1 q.2 else none
noncomputable def PM(K:Fg)(r:V->List V->Hp->VK->Prop)(f:FM):Prop:=∀x xs M z M',f x xs M=some (z,M')->∀(W:Wd)(H:Hp)(v:V)(vs:List V)(Q:VK),Good K W M H->cF K W x v->bU K W xs vs->(∀w W' H',W.Ext W'->Good K W' M' H'->cF K W' z w->Q w H')->r v vs H Q
theorem aEt{T:String}{r:V->List V->Hp->VK->Prop}{h:FM}{ta:TE}{f:EF}{tA:TA}{fa:AF}(p:PM K r h)(a:SE K ta f)(b:SA K tA fa):SE K (tBM K T r ta tA) (zF T h f fa):=by
 sleep 0;sleep 3;by_cases hT:tyB T M1 y=true
 .have hh:(if tyB T M1 y=true then(fa γ M1).bind fun q=>h y q.1 q.2 else none)=some (x,M'):=hh;rw[A3 hT]at hh;obtain⟨⟨ys,M2⟩,h2,hh⟩:=aG hh;refine a _ _ _ _ h1 W H σ _ G R fun v W1 H1 e1 G1 r1=>⟨aGu hT G1 r1,?_⟩;refine b _ _ _ _ h2 W1 H1 σ _ G1 (R.up e1) fun vs W2 H2 e2 G2 r2=>?_;exact p _ _ _ _ _ hh W2 H2 v vs Q G2 (r1.up e2) r2 fun w W3 H3 e3 G3 r3=>k w W3 H3 ((e1.trans e2).trans e3) G3 r3
 .have hh:(if tyB T M1 y=true then(fa γ M1).bind fun q=>h y q.1 q.2 else none)=some (x,M'):=hh;rw[A5 hT]at hh;cases hh
noncomputable def hV:FM:=fun x ys M=>match x,ys with
 |.c i,[y]=>match M[i]? with
  |some (.lst xs)=>if xs.length<sizeLine then some (.d .none,M.set i (.lst (xs++[y])))else none
  |_=>none
 |_,_=>none
theorem WG:PM K SQ hV:=by
 intro x ys M z M' h W H v vs Q G rx rs k;unfold hV at h;split at h
 .rename_i i y;split at h
  .rename_i xs hx;by_cases hl:xs.length<sizeLine
   .rw[A3 hl]at h;cases h;obtain⟨us,hv,hr⟩:=G.lstAt hx;rcases rs with _|⟨r1,_|_⟩;refine⟨W.α i,us,_,rx.2,rfl,hv,by rw[<- Paired.len hr];exact hl,?_⟩;exact k _ W _ (.refl _) (G.set hx (by intro q;cases q) (c':=.lst (xs++[y])) (show bU K W _ _ from Paired.app hr (.cons r1 .nil))) rfl
   .rw[A5 hl]at h;cases h
  .cases h
 .cases h
end
section
variable{ι:Type}{K:Fg}{X:ι->Cx}{a b c e o:Expr}{es:List Expr}{f g h:EF}{fa:AF}{pos:Pos}
structure MO(K:Fg)(X:ι->Cx)(e:Option Expr)(f:OF):Prop where
 ex:∃t,(∀i,PO (X i) e t)/\SO K t f
theorem pN:MO K X none hX:=⟨_,fun _=>aEA,aCZ⟩
theorem pY(x:ME K X e f):MO K X (some e) (qS f):=by
 sleep 2;exact⟨_,fun i=>aDS (x1 i),aCK x2⟩
theorem EH{lo hi:Option Expr}{l u:OF}{p2:Pos}(hK:∀i,(X i).K=K)(x:ME K X a f)(y:MO K X lo l)(z:MO K X hi u):ME K X (.Subscript a (.Slice lo hi none p2) pos) (fSl f l u):=by
 obtain⟨t,x1,x2⟩:=x.ex;obtain⟨t',y1,y2⟩:=y.ex;obtain⟨t'',z1,z2⟩:=z.ex;exact⟨_,fun i=>aAc (kSl (hK i)) (x1 i) (y1 i) (z1 i),aIW x2 y2 z2⟩
theorem XR:QN K X (.type "int") IL:=⟨_,fun _=>WM,aHK⟩
theorem yR{apos cpos:Pos}(hK:∀i,(X i).K=K)(x:ME K X o f)(y:MA K X [e] fa)(hb:∀env:Env,attributeBase o "append" env (eval o env)=eval o env:=by intro _;rfl)(hl:(apos.endLine==cpos.line)=true:=by rfl):
 ME K X (.Call (.Attribute o "append" apos) [e] [] cpos) (zF "list" hV f fa):=by
 sleep 4;refine⟨_,fun i=>?_,aEt WG x2 y2⟩;have:=aKe PySem.F.plainAttrs_list PySem.F.slot_list_append PySem.F.type_list_append WL (x1 i) (y1 i) (apos:=apos) (cpos:=cpos) (hb _) (by rw[y.st.1];rfl) hl (y.st.1 _) (y.st.2.plain _ _);rw[hK i]at this;exact this
end
noncomputable def aFD(K:Fg):List V->Hp->VK->Prop:=fun xs H Q=>∃x d,xs=[x]/\Rep K H d x/\d.showable=true/\d.depth<=64/\d.shown.length<=sizeLine/\Q (.str d.shown) H
theorem aJo{X:Cx}(hK:X.K=K)(hg:X.A.guards=some [])(hu:X.A.units+200<cLine):gO X (.builtin "repr") (aFD K):=by
 subst hK;intro pins s σ H xs us Q I r h;obtain⟨x,d,rfl,hd,hs,hp,hz,q⟩:=h;obtain⟨u,rfl,ru⟩:=vals1 r
 have big:∀a,u=.ref a->wpAny (model X.prog X.w) X.A (call (.builtin "repr") [u]) (EP X pins σ Q) X.xe s:=fun a e=>by
  subst e;obtain⟨as,hr,hn⟩:=Rep.reads' I d x _ hd ru;exact repr_of_reads' hr hs (fun _=>hn) hg (by omega) (fun _ _ e=>e) (fun h' u' tk hk=>⟨.str d.shown,H,I.kept (h':=h') (t':=tk) hk,⟨_,rfl⟩,q⟩) hz
 cases d with
 |none=>
  rw[show x=.non from hd]at ru;cases (show u=Value.none from ru);exact PySem.P.repr_of_none ⟨.str _,H,I.tok _,⟨_,rfl⟩,q⟩
 |bool b=>
  rw[show x=.bl b from hd]at ru;cases (show u=Value.bool b from ru);refine PySem.P.repr_of_bool ⟨.str _,H,I.tok _,⟨_,rfl⟩,?_⟩;cases b<;>exact q
 |int i=>
  rw[show x=.int i from hd]at ru;obtain⟨t,rfl⟩:=(show ∃t,u=Value.int i t from ru);exact PySem.P.repr_of_int (C3 hs) ⟨.str _,H,I.tok _,⟨_,rfl⟩,q⟩
 |str y=>
  rw[show x=.str y from hd]at ru;obtain⟨t,rfl⟩:=(show ∃t,u=Value.str y t from ru);exact PySem.P.repr_of_str ⟨.str _,H,I.tok _,⟨_,rfl⟩,q⟩ hz
 |list ds=>obtain⟨a,vs,e,_,_⟩:=hd;subst e;exact big a ru
 |tuple ds=>obtain⟨a,vs,e,_,_⟩:=hd;subst e;exact big a ru
 |dict ds=>obtain⟨a,vs,e,_,_⟩:=hd;subst e;exact big a ru
noncomputable def tV(d:PyData):Bool:=d.showable&&decide (d.depth<=64)&&decide (d.shown.length<=sizeLine)
noncomputable def SL:FN:=fun xs M=>match xs with
 |[.d x]=>if tV x=true then some (.d (.str x.shown),M)else none
 |_=>none
theorem cB.u200{k:Nat}{A:Around}(r:cB k A):A.units+200<cLine:=by have:=r.un;omega
theorem Def.okNone{P:Program}{w:World}{mg:Str->Option Value}{base:Heap}{x:Str}{st:Stmt}{N ps:List Str}{k:Nat}(D:Def K mg x st)(S:aT N ps (aH st))
 (hb:∀(kV doc pm:Value)(an:Option Addr)(cdv ct:Value)(us:List Value),us.length=ps.length->bindArgs (PySem.W.fnOf x x (dW st) (bQ st) (aH st) .none kV doc pm an cdv ct) ⟨us,[]⟩=pure (ps.zip us)):
 Callee P w K mg base (k+1) x ps (spM K fun _ _=>none):=by
 refine D.ok S hb (fun vs H Q E h=>?_) fun f cdv A outer s H vs Q E hr h=>?_
 .obtain⟨xs,M,W,y,M',G,R,hf,_⟩:=h;cases hf
 .obtain⟨xs,M,W,y,M',G,R,hf,_⟩:=h;cases hf
theorem Good.freeze(g:Good K W M H){i:Nat}{c:Cell}{o':HO}(hi:M[i]?=some c)(hc:c≠.dead):
 W.Ext { W with F:=upd W.F (W.α i) o' }/\Good K { W with F:=upd W.F (W.α i) o' } (M.set i .dead) (upd H (W.α i) o'):=by
 obtain⟨h1,o,h2,h3⟩:=g.cs i c hi hc;have lt:i<M.length:=(List.getElem?_eq_some_iff.mp hi).1;have e:W.Ext { W with F:=upd W.F (W.α i) o' }:=⟨jO.upd h1,A7 _,fun _ _=>rfl⟩
 have at_:∀j d,(M.set i .dead)[j]?=some d->d≠.dead->j≠i/\M[j]?=some d:=fun j d h hd=>by
  by_cases q:i=j
  .subst q;rw[E3 lt]at h;exact absurd (D2 h).symm hd
  .rw[D4 q]at h;exact⟨fun z=>q z.symm,h⟩
 refine⟨e,?_,by show W.n=_;rw[g.n,U1],fun j d hj hd=>?_,fun j k d1 d2 hj hk e1 e2 he=>?_⟩
 .intro b u hb;have hb:upd W.F (W.α i) o' b=some u:=hb;by_cases q:b=W.α i
  .subst q;rw[aR]at hb;rw[aR];exact hb
  .rw[aL q]at hb;rw[aL q];exact g.fh b u hb
 .obtain⟨q,h⟩:=at_ j d hj hd;obtain⟨k1,u,k2,k3⟩:=g.cs j d h hd;have ne:W.α j≠W.α i:=fun z=>q (g.inj j i d c h hi hd hc z);exact⟨by show upd W.F (W.α i) o' (W.α j)=none;rw[aL ne];exact k1,u,by rw[aL ne];exact k2,k3.up e⟩
 .exact g.inj j k d1 d2 (at_ j d1 hj e1).2 (at_ k d2 hk e2).2 e1 e2 he
noncomputable def yY:EF:=fun _ M=>some (.d (.dict []),M)
theorem aAx:SE K YQ yY:=by
 sleep 0;cases hh;intro p hp;obtain⟨e2,G2⟩:=G.lay (o:=.dK []) hp;exact k _ _ _ e2 G2 ⟨p,[],rfl,aR,rfl⟩
noncomputable def HU:List (EF×EF)->Ga->Sto->Option (List (CD×CD)×Sto)
 |[],_,M=>some ([],M)
 |(f,g)::r,γ,M=>(f γ M).bind fun a=>(g γ a.2).bind fun b=>(HU r γ b.2).bind fun q=>some ((a.1,b.1)::q.1,q.2)
noncomputable def keyOf:CD->Option Key
 |.d (.int i)=>some (.inl i)
 |.d (.str x)=>some (.inr x)
 |_=>none
noncomputable def keyed:List (CD×CD)->Option (List (Key×PyData))
 |[]=>some []
 |(k,.d x)::r=>(keyOf k).bind fun k'=>(keyed r).bind fun q=>some ((k',x)::q)
 |_=>none
noncomputable def NF(fs:List (EF×EF)):EF:=fun γ M=>(HU fs γ (M++[.dk []])).bind fun r=>match r.2[M.length]? with
 |some (.dk [])=>(keyed r.1).bind fun kvs=>if kvs.length<=15/\(kvs.map (·.1)).Nodup then some (.d (.dict (kvs.map fun p=>(aAq p.1,p.2))),r.2.set M.length .dead)else none
 |_=>none
section
variable{K:Fg}
noncomputable def SPs(K:Fg):List (TE×TE)->List (EF×EF)->Prop:=Paired fun t f=>SE K t.1 f.1/\SE K t.2 f.2
theorem aAm:∀{ts:List (TE×TE)}{fs:List (EF×EF)},SPs K ts fs->∀{γ:Ga}{M:Sto}{xs:List (CD×CD)}{M':Sto},HU fs γ M=some (xs,M')->∀{W:Wd}{H:Hp}{σ:St}{Q:List (V×V)->Hp->Prop},Good K W M H->cQ K W γ σ->
 (∀vs W' H',W.Ext W'->Good K W' M' H'->Paired (fun a b=>cF K W' a.1 b.1/\cF K W' a.2 b.2) xs vs->Q vs H')->KC ts σ H Q
 |_,_,.nil,γ,M,xs,M',h,W,H,σ,Q,G,R,k=>by
  cases h;exact k [] W H (.refl _) G .nil
 |_,_,.cons s1 s2,γ,M,xs,M',h,W,H,σ,Q,G,R,k=>by
  obtain⟨⟨a,M1⟩,h1,h⟩:=aG h;obtain⟨⟨b,M2⟩,h2,h⟩:=aG h;obtain⟨⟨q,M3⟩,h3,h⟩:=aG h;cases h;refine s1.1 _ _ _ _ h1 W H σ _ G R fun v W1 H1 e1 G1 r1=>?_;refine s1.2 _ _ _ _ h2 W1 H1 σ _ G1 (R.up e1) fun u W2 H2 e2 G2 r2=>?_;refine aAm s2 h3 G2 (R.up (e1.trans e2)) fun vs W3 H3 e3 G3 r3=>?_;exact k _ W3 H3 ((e1.trans e2).trans e3) G3 (.cons ⟨r1.up (e2.trans e3),r2.up e3⟩ r3)
theorem HL{x:CD}{k:Key}{v:V}(h:keyOf x=some k)(r:cF K W x v):v=kV k:=by
 unfold keyOf at h;split at h
 .cases h;exact r
 .cases h;exact r
 .cases h
theorem FY{W:Wd}:∀{xs:List (CD×CD)}{kvs:List (Key×PyData)}{vs:List (V×V)},keyed xs=some kvs->Paired (fun a b=>cF K W a.1 b.1/\cF K W a.2 b.2) xs vs->
 ∃us:List (Key×V),vs=us.map (fun p=>(kV p.1,p.2))/\us.map (·.1)=kvs.map (·.1)/\pA K W.F (kvs.map fun p=>(aAq p.1,p.2)) us
 |[],kvs,vs,h,r=>by
  cases h;cases r;exact⟨[],rfl,rfl,rfl⟩
 |(k,.c _)::_,kvs,vs,h,r=>by cases h
 |(k,.d x)::xs,kvs,vs,h,r=>by
  obtain⟨k',h1,h⟩:=aG (show(keyOf k).bind _=_ from h);obtain⟨q,h2,h⟩:=aG h;cases h;cases r with
  |@cons _ b _ vs' r1 r2=>
   obtain⟨us,e1,e2,e3⟩:=FY h2 r2;refine⟨(k',b.2)::us,?_,?_,k',b.2,us,rfl,rfl,r1.2,e3⟩
   .rw[C4,<- e1,<- HL h1 r1.1]
   .rw[C4,C4,e2]
theorem GE:∀(more acc:List (Key×V)),((acc++more).map (·.1)).Nodup->rS acc more=acc++more
 |[]=>fun acc _=>by simp[rS]
 |p::more=>fun acc h=>by
  have hn:jN acc p.1=none:=by
   unfold jN;rw[Option.map_eq_none_iff,List.find?_eq_none];intro x hx hd;have:x.1=p.1:=C3 hd;rw[D3,O8]at h;exact h.2.2 x.1 (J4 hx) p.1 (by simp) this
  show rS (putK acc p.1 p.2) more=_;rw[ZK _ hn,GE more _ (by rw[B2];exact h),B2];rfl
theorem aDl{ts:List (TE×TE)}{fs:List (EF×EF)}(sp:SPs K ts fs):SE K (aFi ts) (NF fs):=by
 sleep 0;obtain⟨⟨xs,M1⟩,h1,hh⟩:=aG hh;intro p hp;have G1:=G.new hp (c:=.dk []) (o:=.dK []) (show Paired _ [] []from .nil);have e1:=W.ext_more p;refine aAm sp h1 G1 (R.up e1) fun vs W2 H2 e2 G2 r2=>?_;dsimp only at hh;split at hh
 .rename_i hM;obtain⟨kvs,h2,hh⟩:=aG hh;by_cases hc:kvs.length<=15/\(kvs.map (·.1)).Nodup
  .rw[A3 hc]at hh;cases hh
   have al:W2.α M.length=p:=by
    rw[e2.al M.length (by show M.length<W.n+1;rw[G.n];exact F5 _)];show(if M.length=W.n then p else _)=p;rw[A3 G.n.symm]
   obtain⟨_,o,g2,g3⟩:=G2.cs _ _ hM (by intro z;cases z);rw[al]at g2
   have ho:o=.dK []:=by
    cases o with
    |dK us=>cases g3;rfl
    |_=>exact False.elim g3
   subst ho;obtain⟨us,z1,z2,z3⟩:=FY h2 r2;have nd:(us.map (·.1)).Nodup:=by rw[z2];exact hc.2
   have hl:us.length<=15:=by
    have:=O2 List.length z2;rw[A8,A8]at this;omega
   refine⟨g2,us,z1,hl,?_⟩;rw[GE us [] (by simpa using nd),Y2];obtain⟨e3,G3⟩:=G2.freeze (o':=.dK us) hM (by intro z;cases z);rw[al]at e3 G3;exact k _ _ _ ((e1.trans e2).trans e3) G3 ⟨p,us,rfl,aR,pA.same e3.ff _ _ z3⟩
  .rw[A5 hc]at hh;cases hh
 .cases hh
end
section
variable{ι:Type}{K:Fg}{X:ι->Cx}
structure MD(K:Fg)(X:ι->Cx)(pos:Pos)(ks:List (Option Expr))(vs:List Expr)(fs:List (EF×EF)):Prop where
 ex:∃ts,(∀i,PPs (X i) pos ks vs ts)/\SPs K ts fs
theorem aHk:MD K X pos [] [] []:=⟨_,fun _=>aCL,.nil⟩
theorem RU{k v:Expr}{ks:List (Option Expr)}{vs:List Expr}{f g:EF}{fs:List (EF×EF)}(x:ME K X k f)(y:ME K X v g)(z:MD K X pos ks vs fs):MD K X pos (some k::ks) (v::vs) ((f,g)::fs):=by
 obtain⟨t,x1,x2⟩:=x.ex;obtain⟨u,y1,y2⟩:=y.ex;obtain⟨o,z1,z2⟩:=z.ex;exact⟨_,fun i=>aBi (x1 i) (y1 i) (z1 i),.cons ⟨x2,y2⟩ z2⟩
theorem aDX{ks:List (Option Expr)}{vs:List Expr}{fs:List (EF×EF)}(x:MD K X pos ks vs fs)(hall:ks.all (·.isSome)=true:=by rfl)(hl:ks.length=vs.length:=by rfl)(h0:ks≠[]:=by simp)(h15:ks.length<=15:=by simp):ME K X (.Dict ks vs pos) (NF fs):=by
 sleep 2;exact⟨_,fun i=>aER (x1 i) hall hl h0 h15,aDl x2⟩
theorem aAo:ME K X (.Dict [] [] pos) yY:=⟨_,fun _=>ZF,aAx⟩
end
mutual
noncomputable def wt:PyData->Nat
 |.none=>4
 |.bool _=>5
 |.int _=>2000
 |.str x=>(reprText x).length
 |.list xs=>kB xs+3
 |.tuple xs=>kB xs+3
 |.dict kvs=>VX kvs+3
noncomputable def kB:List PyData->Nat
 |[]=>0
 |x::xs=>wt x+2+kB xs
noncomputable def VX:List (PyData×PyData)->Nat
 |[]=>0
 |(k,v)::r=>wt k+wt v+4+VX r
end
mutual
noncomputable def oks:PyData->Bool
 |.none=>true
 |.bool _=>true
 |.int i=>decide (i.natAbs<2 ^ 1900)
 |.str _=>true
 |.list xs=>eW xs
 |.tuple xs=>eW xs
 |.dict kvs=>FW kvs
noncomputable def eW:List PyData->Bool
 |[]=>true
 |x::xs=>oks x&&eW xs
noncomputable def FW:List (PyData×PyData)->Bool
 |[]=>true
 |(k,v)::r=>oks k&&oks v&&FW r
end
theorem aDw{i:Int}(h:i.natAbs<2 ^ 1900):i.natAbs.log2<1900:=by
 by_cases h0:i.natAbs=0
 .rw[h0];decide +kernel
 .exact(Nat.log2_lt h0).mpr h
theorem aCX{i:Int}(h:i.natAbs<2 ^ 1900):((toString i:String):Str).length<=2000:=by
 have h1:=int_text_length_le (k:=1900) (by decide) (aDw h);show(Str.ofString (toString i)).length<=2000;rw[PySem.ofString_length];omega
mutual
theorem shown_le:∀d:PyData,oks d=true->d.shown.length<=wt d
 |.none=>fun _=>by decide
 |.bool b=>fun _=>by cases b<;>decide
 |.int i=>fun h=>aCX (C3 h)
 |.str x=>fun _=>A7 _
 |.list xs=>fun h=>by
  have:=shownAll_le xs h;have h2:=listText_len_le (PyData.shownAll xs);show(listText (PyData.shownAll xs)).length<=kB xs+3;omega
 |.tuple xs=>fun h=>by
  have:=shownAll_le xs h;have h2:=tupleText_len_le (PyData.shownAll xs);show(tupleText (PyData.shownAll xs)).length<=kB xs+3;omega
 |.dict kvs=>fun h=>by
  have:=shownKv_le kvs h;have h2:=dictText_len_le (PyData.shownKv kvs);show(dictText (PyData.shownKv kvs)).length<=VX kvs+3;omega
theorem shownAll_le:∀xs:List PyData,eW xs=true->((PyData.shownAll xs).map (·.length)).sum+2*(PyData.shownAll xs).length<=kB xs
 |[]=>fun _=>by simp[PyData.shownAll,kB]
 |x::xs=>fun h=>by
  unfold eW at h;rw[B4]at h;have h1:=shown_le x h.1;have h2:=shownAll_le xs h.2;simp only[PyData.shownAll,kB,List.map_cons,List.sum_cons,List.length_cons];omega
theorem shownKv_le:∀kvs:List (PyData×PyData),FW kvs=true->((PyData.shownKv kvs).map (·.length)).sum+2*(PyData.shownKv kvs).length<=VX kvs
 |[]=>fun _=>by simp[PyData.shownKv,VX]
 |(k,v)::r=>fun h=>by
  unfold FW at h;rw[B4,B4]at h;have h1:=shown_le k h.1.1;have h2:=shown_le v h.1.2;have h3:=shownKv_le r h.2
  have e:(PyData.shown k++": "++PyData.shown v).length=(PyData.shown k).length+2+(PyData.shown v).length:=by
   rw[strLen_append,strLen_append];rfl
  simp only[PyData.shownKv,VX,List.map_cons,List.sum_cons,List.length_cons,e];omega
end
mutual
theorem mJ:∀d:PyData,oks d=true->d.showable=true
 |.none=>fun _=>rfl
 |.bool _=>fun _=>rfl
 |.int i=>fun h=>by
  have h:i.natAbs<2 ^ 1900:=C3 h;refine C7 ?_;by_cases h0:i.natAbs=0
  .rw[h0];decide +kernel
  .exact O1 ((Nat.log2_lt h0).mpr h) (by decide)
 |.str _=>fun _=>rfl
 |.list xs=>fun h=>showableAll_of xs h
 |.tuple xs=>fun h=>showableAll_of xs h
 |.dict kvs=>fun h=>showableKv_of kvs h
theorem showableAll_of:∀xs:List PyData,eW xs=true->PyData.showableAll xs=true
 |[]=>fun _=>rfl
 |x::xs=>fun h=>by
  unfold eW at h;rw[B4]at h;show(PyData.showable x&&PyData.showableAll xs)=true;rw[mJ x h.1,showableAll_of xs h.2];rfl
theorem showableKv_of:∀kvs:List (PyData×PyData),FW kvs=true->PyData.showableKv kvs=true
 |[]=>fun _=>rfl
 |(k,v)::r=>fun h=>by
  unfold FW at h;rw[B4,B4]at h;show(PyData.showable k&&PyData.showable v&&PyData.showableKv r)=true;rw[mJ k h.1.1,mJ v h.1.2,showableKv_of r h.2];rfl
end
structure Fit(n m:Nat)(d:PyData):Prop where
 ok:oks d=true
 wt:wt d<=n
 dp:d.depth<=m
theorem Fit.shown{n m:Nat}{d:PyData}(f:Fit n m d)(hn:n<=sizeLine:=by decide)(hm:m<=64:=by decide):tV d=true:=by
 unfold tV;rw[mJ d f.ok,C7 (C8 f.dp hm),C7 (C8 (C8 (shown_le d f.ok) f.wt) hn)];rfl
theorem Fit.mono{n m n' m':Nat}{d:PyData}(f:Fit n m d)(hn:n<=n')(hm:m<=m'):Fit n' m' d:=⟨f.ok,C8 f.wt hn,C8 f.dp hm⟩
theorem BS{n m:Nat}{d:PyData}(f:Fit n m d)(hn:n<=sizeLine:=by decide)(hm:m<=64:=by decide):SL [.d d] M=some (.d (.str d.shown),M):=by
 unfold SL;dsimp only;rw[A3 (f.shown hn hm)]
noncomputable def xH(f:Str)(v:CD):List (Str×CD)->List (Str×CD)
 |[]=>[(f,v)]
 |(g,x)::r=>if g=f then(g,v)::r else(g,x)::xH f v r
section
variable{K:Fg}
theorem CZ{W:Wd}{f:Str}{x:CD}{v:V}(r:cF K W x v):∀{fs:List (Str×CD)}{us:List (Str×V)},Paired (fun p q=>p.1=q.1/\cF K W p.2 q.2) fs us->Paired (fun p q=>p.1=q.1/\cF K W p.2 q.2) (xH f x fs) (oW f v us)
 |_,_,.nil=>.cons ⟨rfl,r⟩ .nil
 |(g,y)::fs,(g',u)::us,.cons h t=>by
  obtain⟨h1,h2⟩:=h;have h1:g=g':=h1;subst h1;unfold xH oW;by_cases e:g=f
  .rw[A3 e,A3 e];exact .cons ⟨rfl,r⟩ t
  .rw[A5 e,A5 e];exact .cons ⟨rfl,h2⟩ (CZ r t)
theorem tU{W:Wd}{f:Str}{x:CD}:∀{fs:List (Str×CD)}{us:List (Str×V)},Paired (fun p q=>p.1=q.1/\cF K W p.2 q.2) fs us->fs.lookup f=some x->∃v,us.lookup f=some v/\cF K W x v
 |_,_,.nil=>fun h=>by cases h
 |(g,y)::fs,(g',u)::us,.cons h t=>fun e=>by
  obtain⟨h1,h2⟩:=h;have h1:g=g':=h1;subst h1;rw[D1]at e ⊢;by_cases q:(f==g)=true
  .rw[q]at e ⊢;cases e;exact⟨u,rfl,h2⟩
  .have q':(f==g)=false:=by simpa using q
   rw[q']at e ⊢;exact tU t e
theorem Good.objAt{i:Nat}{nm:Str}{fs:List (Str×CD)}(G:Good K W M H)(h:M[i]?=some (.obj nm fs)):∃dx us,H (W.α i)=some (.ins (aS K nm) dx us)/\Paired (fun p q=>p.1=q.1/\cF K W p.2 q.2) fs us:=by
 obtain⟨_,o,h2,h3⟩:=G.cs i _ h (by intro z;cases z);cases o with
 |ins C dx us=>
  obtain⟨e,p⟩:=h3;subst e;exact⟨dx,us,h2,p⟩
 |_=>exact False.elim h3
theorem Good.extra(g:Good K W M H){p:Addr}{o:HO}(hp:H p=none):Good K W M (upd H p o):=by
 refine⟨fun b u hb=>?_,g.n,fun i c hi hc=>?_,g.inj⟩
 .have:=g.fh b u hb;rw[aL (aQ this hp)];exact this
 .obtain⟨h1,o',h2,h3⟩:=g.cs i c hi hc;exact⟨h1,o',by rw[aL (aQ h2 hp)];exact h2,h3⟩
noncomputable def objOf(nm:Str)(M:Sto):CD->Option (Nat×List (Str×CD))
 |.c i=>match M[i]? with
  |some (.obj nm' fs)=>if nm'=nm then some (i,fs)else none
  |_=>none
 |_=>none
theorem xC{nm:Str}{x:CD}{i:Nat}{fs:List (Str×CD)}(h:objOf nm M x=some (i,fs)):x=.c i/\M[i]?=some (.obj nm fs):=by
 unfold objOf at h;split at h
 .rename_i j;split at h
  .rename_i nm' fs' hj;by_cases e:nm'=nm
   .rw[A3 e]at h;cases h;subst e;exact⟨rfl,hj⟩
   .rw[A5 e]at h;cases h
  .cases h
 .cases h
noncomputable def cV(nm f:Str)(e:EF):EF:=fun γ M=>(e γ M).bind fun r=>(objOf nm r.2 r.1).bind fun p=>(p.2.lookup f).bind fun v=>some (v,r.2)
theorem aFN{nm f:Str}{ta:TE}{e:EF}(c:Cls K (aS K nm))(n:fZ K (aS K nm) f)(a:SE K ta e):SE K (aEk K ta f) (cV nm f e):=by
 sleep 0;sleep 3;obtain⟨⟨i,fs⟩,h2,hh⟩:=aG hh;obtain⟨v,h3,hh⟩:=aG hh;cases hh;refine a _ _ _ _ h1 W H σ _ G R fun u W1 H1 e1 G1 r1=>?_;obtain⟨rfl,hM⟩:=xC h2;obtain⟨dx,us,hH,hp⟩:=G1.objAt hM;obtain⟨w,hw,rw'⟩:=tU hp h3;exact⟨W1.α i,_,dx,us,w,r1.2,hH,c,n,hw,k w W1 H1 e1 G1 rw'⟩
noncomputable def FZ(nm f:Str)(eo ev:EF):SF:=fun γ M=>(ev γ M).bind fun v=>(eo γ v.2).bind fun o=>(objOf nm o.2 o.1).bind fun p=>if p.2.length<1000 then some (.nx γ,o.2.set p.1 (.obj nm (xH f v.1 p.2)))else none
theorem aHB{nm f:Str}{ta tv:TE}{eo ev:EF}(c:Cls K (aS K nm))(n:fZ K (aS K nm) f)(a:SE K ta eo)(b:SE K tv ev):SS K (aEq K ta tv f) (FZ nm f eo ev):=by
 sleep 5;sleep 3;obtain⟨⟨z,M2⟩,h2,hh⟩:=aG hh;obtain⟨⟨i,fs⟩,h3,hh⟩:=aG hh;by_cases hl:fs.length<1000
 .have hh:(if fs.length<1000 then some (Out.nx γ,M2.set i (.obj nm (xH f y fs)))else none)=some (o,M'):=hh;rw[A3 hl]at hh;cases hh;refine b _ _ _ _ h1 W H σ _ G R fun v W1 H1 e1 G1 r1=>?_;refine a _ _ _ _ h2 W1 H1 σ _ G1 (R.up e1) fun u W2 H2 e2 G2 r2=>?_;obtain⟨rfl,hM⟩:=xC h3;obtain⟨dx,us,hH,hp⟩:=G2.objAt hM;refine⟨W2.α i,_,dx,us,r2.2,hH,c,n,by rw[<- Paired.len hp];exact hl,?_⟩;exact k W2 _ (e1.trans e2) (G2.set hM (by intro q;cases q) (c':=.obj nm (xH f y fs)) (o':=.ins (aS K nm) dx (oW f v us)) ⟨rfl,CZ (r1.up e2) hp⟩) σ (R.up (e1.trans e2))
 .have hh:(if fs.length<1000 then some (Out.nx γ,M2.set i (.obj nm (xH f y fs)))else none)=some (o,M'):=hh;rw[A5 hl]at hh;cases hh
noncomputable def uO:CD->Bool
 |.d .none=>true
 |_=>false
theorem BK{x:CD}(h:uO x=true):x=.d .none:=by
 cases x with
 |c n=>cases h
 |t n=>cases h
 |f n=>cases h
 |d x=>cases x<;>first|rfl|cases h
end
section
variable{ι:Type}{K:Fg}{X:ι->Cx}{a b c e o:Expr}{es:List Expr}{f g h:EF}{fa:AF}{pos:Pos}
theorem eI{nm fl:Str}(hK:∀i,(X i).K=K)(hc:Cls K (aS K nm))(hn:fZ K (aS K nm) fl)(x:ME K X o f)(hb:∀env:Env,attributeBase o fl env (eval o env)=eval o env:=by intro _;rfl):ME K X (.Attribute o fl pos) (cV nm fl f):=by
 sleep 2;refine⟨_,fun i=>?_,aFN hc hn x2⟩;have:=aCv (x1 i) (hb _) (pos:=pos);rw[hK i]at this;exact this
theorem aBN{nm fl:Str}{pos':Pos}(hK:∀i,(X i).K=K)(hc:Cls K (aS K nm))(hn:fZ K (aS K nm) fl)(x:ME K X o f)(y:ME K X e g)(hs:∀i,swapsWith e (some (.Attribute o fl pos')) pos.line (X i).env=pure false:=by intro _;rfl):MS K X (.Assign [.Attribute o fl pos'] e pos) (FZ nm fl f g):=by
 sleep 4;refine⟨_,fun i=>?_,aHB hc hn x2 y2⟩;have:=aCh (x1 i) (y1 i) (hs i);rw[hK i]at this;exact this
end
structure KO(K:Fg)(nm m qual:Str)(st:Stmt):Prop where
 ex:∃f fd,Fun K m qual st f fd/\PySem.W.findIn K (.ref (aS K nm)) m=some (some (.ref f))/\PySem.W.isFn K (.ref f)=true
section
variable{P:Program}{w:World}{K:Fg}{mg:Str->Option Value}{base:Heap}
theorem Fun.okQ{x qual:Str}{st:Stmt}{N ps:List Str}{k:Nat}{b:SF}{f:Addr}{fd:FuncData}(F:Fun K x qual st f fd)(S:aT N ps (aH st))
 (hbody:∀(f:Addr)(cdv:Value)(A:Around)(outer:List Env)(s:Shared)(H:Hp)(E:XK),cB k (A.deeper (envOfC qual (aH st) s.heap.objs.size f cdv))->
  ML K (fun _:Unit=>(nR CX0 P w K mg base N qual (aH st) f cdv A outer s H E).nox) (bQ st) b):jF P w K mg base CX0 (k+1) f fd ps (spM K (fnF ps.length N.length b)):=by
 have len:∀vs H Q E,spM K (fnF ps.length N.length b) vs H Q E->vs.length=ps.length:=fun vs H Q E h=>by
  obtain⟨xs,M,W,y,M',G,R,hf,_⟩:=h;by_cases hl:xs.length=ps.length
  .rw[<- Paired.len R];exact hl
  .unfold fnF at hf;rw[A5 hl]at hf;cases hf
 refine F.ok S len fun cdv A outer s H vs Q E hr h=>?_;obtain⟨t,hP,hS⟩:=(hbody f cdv A outer s H E hr).ex;refine⟨t,hP (),?_⟩;obtain⟨xs,M,W,y,M',G,R,hf,k⟩:=h;by_cases hl:xs.length=ps.length
 .unfold fnF at hf;rw[A3 hl]at hf;obtain⟨⟨o,M1⟩,h1,hf⟩:=aG hf
  have hR:cQ K W (xs.map some++List.replicate (N.length-xs.length) none) (start N vs):=by
   unfold start;rw[<- Paired.len R];exact Paired.app (bU.some R) (rJ _)
  refine hS _ _ _ _ h1 W H _ _ G hR fun W1 H1 e1 G1=>?_;cases o with
  |rt x=>cases hf;exact fun v r=>k v W1 H1 e1 G1 r
  |nx γ=>cases hf;exact fun σ r=>k .non W1 H1 e1 G1 rfl
  |bk γ=>cases hf
  |ct γ=>cases hf
 .unfold fnF at hf;rw[A5 hl]at hf;cases hf
end
open PySem PySem.W PyProof.Rows
noncomputable def KS{α:Type}(lt:Nat->Nat->Bool)(n:Nat):KasT α->(α->Prop)->Prop
 |.ret a,Q=>Q a
 |.ask i j k,Q=>i<n/\j<n/\KS lt n (k (lt i j)) Q
theorem KS.bind{α β:Type}{lt:Nat->Nat->Bool}{n:Nat}{f:α->KasT β}{Q:β->Prop}:∀{t:KasT α},KS lt n t (fun a=>KS lt n (f a) Q)->KS lt n (t.bind f) Q
 |.ret _=>fun h=>h
 |.ask _ _ _=>fun h=>⟨h.1,h.2.1,KS.bind h.2.2⟩
theorem KS.mono{α:Type}{lt:Nat->Nat->Bool}{n:Nat}{Q R:α->Prop}(m:∀a,Q a->R a):∀{t:KasT α},KS lt n t Q->KS lt n t R
 |.ret _=>fun h=>m _ h
 |.ask _ _ _=>fun h=>⟨h.1,h.2.1,KS.mono m h.2.2⟩
theorem KS.wp{α:Type}{lt:Nat->Nat->Bool}{n:Nat}{Q:α->Prop}{R:α->Shared->Prop}{s:Shared}{cmp:Nat->Nat->(Bool->Shared->Prop)->Shared->Prop}
 (hc:∀i j C,i<n->j<n->C (lt i j) s->cmp i j C s) (m:∀a,Q a->R a s):∀{t:KasT α},KS lt n t Q->KasT.kasWp cmp t R s
 |.ret _=>fun h=>m _ h
 |.ask _ _ _=>fun h=>hc _ _ _ h.1 h.2.1 (KS.wp hc m h.2.2)
section
variable{lt:Nat->Nat->Bool}{n:Nat}
structure xN(lt:Nat->Nat->Bool):Prop where
 as:∀a b,lt a b=true->lt b a=false
 tr:∀a b c,lt b a=false->lt c b=false->lt c a=false
theorem xN.up(o:xN lt){a b c:Nat}(h:lt c a=true)(h':lt b a=false):lt c b=true:=by
 cases e:lt c b with
 |true=>rfl
 |false=>rw[o.tr _ _ _ h' e]at h;cases h
noncomputable def Inv2(n:Nat)(p:Array Nat):Prop:=p.Perm (List.range n).toArray
theorem Inv2.sz{p:Array Nat}(h:Inv2 n p):p.size=n:=by
 have:=(Array.perm_iff_toList_perm.mp h).length_eq;simpa using this
theorem Inv2.ent{p:Array Nat}(h:Inv2 n p)(h0:0<n)(k:Nat):p.getD k 0<n:=by
 rw[E5];cases e:p[k]? with
 |none=>exact h0
 |some x=>
  have hm:x∈p:=Array.mem_of_getElem? e;have:=(h.mem_iff (a:=x)).mp hm;simpa using this
noncomputable def jE(lt:Nat->Nat->Bool)(p:Array Nat)(n:Nat):Prop:=∀i j,i<j->j<n->lt (p.getD j 0) (p.getD i 0)=false
noncomputable def wY(lt:Nat->Nat->Bool)(p:Array Nat)(n:Nat):Prop:=∀i j,i<j->j<n->lt (p.getD i 0) (p.getD j 0)=false
noncomputable def ZV(lt:Nat->Nat->Bool)(p:Array Nat)(n q:Nat):Prop:=∀i j,n<=i+q+1->i<j->j<n->lt (p.getD j 0) (p.getD i 0)=false
theorem jE.ext(o:xN lt){p:Array Nat}{m:Nat}(h:jE lt p m)(h1:1<=m)(h2:lt (p.getD m 0) (p.getD (m-1) 0)=false):jE lt p (m+1):=by
 intro i j hij hj;by_cases e:j=m
 .subst e;by_cases e':i=j-1
  .subst e';exact h2
  .exact o.tr _ _ _ (h i (j-1) (by omega) (by omega)) h2
 .exact h i j hij (by omega)
theorem wY.ext(o:xN lt){p:Array Nat}{m:Nat}(h:wY lt p m)(h1:1<=m)(h2:lt (p.getD (m-1) 0) (p.getD m 0)=false):wY lt p (m+1):=by
 intro i j hij hj;by_cases e:j=m
 .subst e;by_cases e':i=j-1
  .subst e';exact h2
  .exact o.tr _ _ _ h2 (h i (j-1) (by omega) (by omega))
 .exact h i j hij (by omega)
theorem OS(o:xN lt){p:Array Nat}(hp:Inv2 n p)(h0:0<n){Q:Nat->Prop}:∀(f m:Nat),1<=m->jE lt p m->(∀r,m<=r->r<=m+f->jE lt p r->(r<m+f->lt (p.getD r 0) (p.getD (r-1) 0)=true)->Q r)->KS lt n (kas_asc p f m) Q
 |0=>fun m h1 hs k=>by
  rw[kas_asc.eq_def];exact k m (A7 _) (A7 _) hs (fun h=>absurd h (F6 _))
 |f+1=>fun m h1 hs k=>by
  rw[kas_asc.eq_def];refine⟨hp.ent h0 _,hp.ent h0 _,?_⟩;cases e:lt (p.getD m 0) (p.getD (m-1) 0)with
  |true=>exact k m (A7 _) (by omega) hs (fun _=>e)
  |false=>exact OS o hp h0 f (m+1) (by omega) (hs.ext o h1 e) fun r a b c d=>k r (by omega) (by omega) c (fun z=>d (by omega))
theorem gU{p:Array Nat}(hp:Inv2 n p)(i j:Nat):Inv2 n (kas_rev p i j):=(mirror_perm p i j _).trans hp
theorem tS{p:Array Nat}{i j:Nat}(hj:j<=p.size)(k:Nat):(kas_rev p i j).getD k 0=if i<=k/\k<j then p.getD (i+j-1-k) 0 else p.getD k 0:=by
 rw[E5,show(kas_rev p i j)[k]?=_ from getElem?_mirror_all hj k];by_cases e:i<=k/\k<j
 .rw[A3 e,A3 e,E5]
 .rw[A5 e,A5 e,E5]
theorem OC(o:xN lt){p:Array Nat}{lo hi m:Nat}(hm:m<=p.size)(hh:hi<=m)(d:wY lt p m)(e:∀i j,lo<=i->i<j->j<hi->lt (p.getD j 0) (p.getD i 0)=false):wY lt (kas_rev p lo hi) m:=by
 intro i j hij hj;rw[tS (by omega),tS (by omega)];by_cases a:lo<=i/\i<hi
 .rw[A3 a];by_cases b:lo<=j/\j<hi
  .rw[A3 b];exact e _ _ (by omega) (by omega) (by omega)
  .rw[A5 b];exact d _ _ (by omega) hj
 .rw[A5 a];by_cases b:lo<=j/\j<hi
  .rw[A3 b];exact d _ _ (by omega) (by omega)
  .rw[A5 b];exact d _ _ hij hj
theorem AO(o:xN lt)(h0:0<n){Q:Array Nat×Nat×Nat->Prop}:∀(f:Nat)(p:Array Nat)(m q:Nat),Inv2 n p->1<=m->m+f<=n->wY lt p m->ZV lt p m q->q+1<=m->
 (∀p' m' q',Inv2 n p'->m<=m'->m'<=m+f->wY lt p' m'->ZV lt p' m' q'->q'+1<=m'->Q (p',m',q'))->KS lt n (kas_desc f p m q) Q
 |0=>fun p m q hp h1 h2 hd he hq k=>by
  rw[kas_desc.eq_def];exact k p m q hp (A7 _) (A7 _) hd he hq
 |f+1=>fun p m q hp h1 h2 hd he hq k=>by
  rw[kas_desc.eq_def];refine⟨hp.ent h0 _,hp.ent h0 _,?_⟩;have hsz:=hp.sz;have e0:∀p':Array Nat,ZV lt p' (m+1) 0:=fun p' i j a b c=>by omega
  cases c:lt (p.getD m 0) (p.getD (m-1) 0)with
  |true=>
   have hd1:=hd.ext o h1 (o.as _ _ c);dsimp only;rw[A3 rfl];by_cases hq0:q > 0
   .rw[A3 hq0];exact AO o h0 f _ (m+1) 0 (gU hp _ _) (by omega) (by omega) (OC o (by omega) (by omega) hd1 (fun i j a b d=>he i j (by omega) b (by omega))) (e0 _) (by omega) fun p' m' q' a b c' d e g=>k p' m' q' a (by omega) (by omega) d e g
   .rw[A5 hq0];exact AO o h0 f _ (m+1) 0 hp (by omega) (by omega) hd1 (e0 _) (by omega) fun p' m' q' a b c' d e g=>k p' m' q' a (by omega) (by omega) d e g
  |false=>
   dsimp only;rw[A5 A4];refine⟨hp.ent h0 _,hp.ent h0 _,?_⟩;cases d:lt (p.getD (m-1) 0) (p.getD m 0)with
   |true=>
    dsimp only;rw[A3 rfl];exact k p m q hp (A7 _) (by omega) hd he hq
   |false=>
    dsimp only;rw[A5 A4];refine AO o h0 f p (m+1) (q+1) hp (by omega) (by omega) (hd.ext o h1 d) ?_ (by omega) fun p' m' q' a b c' d e g=>k p' m' q' a (by omega) (by omega) d e g;intro i j a b e;by_cases ej:j=m
    .subst ej;by_cases ei:i=j-1
     .subst ei;exact c
     .exact o.tr _ _ _ (he i (j-1) (by omega) (by omega) (by omega)) c
    .exact he i j (by omega) b (by omega)
noncomputable def Part(lt:Nat->Nat->Bool)(n:Nat)(r:Nat×Array Nat):Prop:=Inv2 n r.2/\1<=r.1/\r.1<=n/\jE lt r.2 r.1
theorem MU(o:xN lt)(h0:0<n){p:Array Nat}{m:Nat}(hp:Inv2 n p)(h1:1<=m)(h2:m<=n)(hd:wY lt p m):KS lt n (kas_tail3 m n p) (Part lt n):=by
 have hsz:=hp.sz;rw[kas_tail3.eq_def];refine KS.bind (OS o (gU hp 0 m) h0 _ _ h1 ?_ fun r a b c _=>⟨gU hp 0 m,by omega,by omega,c⟩);intro i j hij hj;rw[tS (by omega),tS (by omega),A3 (by omega),A3 (by omega)];exact hd _ _ (by omega) (by omega)
theorem AB(o:xN lt)(h0:0<n){p:Array Nat}{m:Nat}(hp:Inv2 n p)(h2:m+1<=n)(hd:wY lt p (m+1)):KS lt n (kas_descPart m n p) (Part lt n):=by
 rw[kas_descPart.eq_def];refine KS.bind (AO o h0 _ _ _ _ hp (by omega) (by omega) hd (fun i j a b c=>by omega) (by omega) fun p' m' q' a b c d e g=>?_);have hsz:=a.sz;show KS lt n (if q' > 0 then kas_tail3 m' n (kas_rev p' (m'-(q'+1)) m')else kas_tail3 m' n p') _;by_cases hq:q' > 0
 .rw[A3 hq];exact MU o h0 (gU a _ _) (by omega) (by omega) (OC o (by omega) (A7 _) d fun i j x y z=>e i j (by omega) y z)
 .rw[A5 hq];exact MU o h0 a (by omega) (by omega) d
theorem aBP(o:xN lt)(h0:0<n){p:Array Nat}(hp:Inv2 n p):KS lt n (kas_count n p) (Part lt n):=by
 have hsz:=hp.sz;rw[kas_count.eq_def];refine KS.bind (OS o hp h0 _ _ (A7 _) (fun i j a b=>by omega) fun r a b c d=>?_);by_cases e:(r==n)=true
 .rw[A3 e];exact⟨hp,a,by omega,c⟩
 .rw[A5 e];have e':r≠n:=by simpa using e
  have hl:=d (by omega);by_cases g:r > 1
  .rw[A3 g];refine⟨hp.ent h0 _,hp.ent h0 _,?_⟩;cases l:lt (p.getD 0 0) (p.getD (r-1) 0)with
   |true=>dsimp only;rw[A3 rfl];exact⟨hp,a,by omega,c⟩
   |false=>
    dsimp only;rw[A5 A4];have le:∀i j,i<=j->j<r->i<j\/i=j:=fun i j x y=>by omega
    have irr:∀x,lt x x=false:=fun x=>by
     cases q:lt x x with
     |false=>rfl
     |true=>rw[o.as _ _ q]at q;cases q
    have up:∀i,i<r->lt (p.getD i 0) (p.getD (r-1) 0)=false:=fun i hi=>by
     have x1:lt (p.getD i 0) (p.getD 0 0)=false:=by
      by_cases z:i=0
      .subst z;exact irr _
      .exact c 0 i (by omega) hi
     exact o.tr _ _ _ l x1
    have dn:∀i,i<r->lt (p.getD (r-1) 0) (p.getD i 0)=false:=fun i hi=>by
     by_cases z:i=r-1
     .subst z;exact irr _
     .exact c i (r-1) (by omega) (by omega)
    have al:∀i j,i<r->j<r->lt (p.getD i 0) (p.getD j 0)=false:=fun i j hi hj=>o.tr _ _ _ (dn j hj) (up i hi);refine AB o h0 (gU hp _ _) (by omega) ?_;intro i j hij hj;rw[tS (by omega),tS (by omega),A3 (by omega)];by_cases z:j<r
    .rw[A3 (by omega)];exact al _ _ (by omega) (by omega)
    .rw[A5 (by omega)];have:j=r:=by omega
     subst this;exact o.tr _ _ _ (o.as _ _ hl) (up _ (by omega))
  .rw[A5 g];have:r=1:=by omega
   subst this;refine AB o h0 hp (by omega) ?_;intro i j hij hj;have:i=0:=by omega
   have:j=1:=by omega
   subst i;subst j;exact o.as _ _ hl
theorem DG(o:xN lt)(h0:0<n){p:Array Nat}(hp:Inv2 n p){k:Nat}(hs:jE lt p k){Q:Nat->Prop}(q:∀l,l<=k->(∀i,i<l->lt (p.getD k 0) (p.getD i 0)=false)->(∀i,l<=i->i<k->lt (p.getD k 0) (p.getD i 0)=true)->Q l):
 ∀(f l r:Nat),l<=r->r<=k->r-l<=f->(∀i,i<l->lt (p.getD k 0) (p.getD i 0)=false)->(∀i,r<=i->i<k->lt (p.getD k 0) (p.getD i 0)=true)->KS lt n (kas_place p k f l r) Q
 |0=>fun l r h1 h2 h3 a b=>by
  rw[kas_place.eq_def];have:l=r:=by omega
  subst this;exact q l h2 a b
 |f+1=>fun l r h1 h2 h3 a b=>by
  rw[kas_place.eq_def];show KS lt n (if l>=r then _ else _) Q;by_cases g:l>=r
  .rw[A3 g];have:l=r:=by omega
   subst this;exact q l h2 a b
  .rw[A5 g];refine⟨hp.ent h0 _,hp.ent h0 _,?_⟩;cases c:lt (p.getD k 0) (p.getD ((l+r) / 2) 0)with
   |true=>
    dsimp only;rw[A3 rfl];refine DG o h0 hp hs q f _ _ (by omega) (by omega) (by omega) a fun i x y=>?_;by_cases z:i=(l+r) / 2
    .subst z;exact c
    .exact o.up c (hs _ _ (by omega) y)
   |false=>
    dsimp only;rw[A5 A4];refine DG o h0 hp hs q f _ _ (by omega) (by omega) (by omega) (fun i x=>?_) b;by_cases z:i=(l+r) / 2
    .subst z;exact c
    .exact o.tr _ _ _ (hs i ((l+r) / 2) (by omega) (by omega)) c
theorem SN{p:Array Nat}{src d:Nat}(h:src<p.size)(hd:d<=src)(k:Nat):(bubble p src d).getD k 0=if k=src-d then p.getD src 0 else if src-d<k/\k<=src then p.getD (k-1) 0 else p.getD k 0:=by
 rw[E5,getElem?_bubble h d hd k];by_cases e:k=src-d
 .rw[A3 e,A3 e,E5]
 .rw[A5 e,A5 e];by_cases e2:src-d<k/\k<=src
  .rw[A3 e2,A3 e2,E5]
  .rw[A5 e2,A5 e2,E5]
theorem YU(o:xN lt)(h0:0<n){Q:Array Nat->Prop}(q:∀p,Inv2 n p->jE lt p n->Q p):∀(f:Nat)(p:Array Nat)(k:Nat),Inv2 n p->k+f=n->jE lt p k->KS lt n (kas_bin f p k) Q
 |0=>fun p k hp hk hs=>by
  rw[kas_bin.eq_def];have:k=n:=by omega
  subst this;exact q p hp hs
 |f+1=>fun p k hp hk hs=>by
  rw[kas_bin.eq_def];have hsz:=hp.sz;refine KS.bind (DG o h0 hp hs (fun l hl a b=>?_) k 0 k (by omega) (by omega) (by omega) (fun i x=>by omega) (fun i x y=>by omega));refine YU o h0 q f _ (k+1) ((bubble_perm p k (k-l)).trans hp) (by omega) ?_;intro i j hij hj;rw[SN (by omega) (by omega),SN (by omega) (by omega)];have hkl:k-(k-l)=l:=by omega
  rw[hkl];by_cases j1:j=l
  .rw[A3 j1,A5 (by omega),A5 (by omega)];exact a i (by omega)
  .rw[A5 j1];by_cases j2:l<j/\j<=k
   .rw[A3 j2];by_cases i1:i=l
    .rw[A3 i1];exact o.as _ _ (b _ (by omega) (by omega))
    .rw[A5 i1];by_cases i2:l<i/\i<=k
     .rw[A3 i2];exact hs _ _ (by omega) (by omega)
     .rw[A5 i2];exact hs _ _ (by omega) (by omega)
   .rw[A5 j2,A5 (by omega),A5 (by omega)];exact hs _ _ hij (by omega)
theorem aEs(o:xN lt)(h0:0<n):KS lt n (kas_sort n) (fun p=>Inv2 n p/\jE lt p n):=by
 unfold kas_sort;refine KS.bind (KS.mono (fun r h=>?_) (aBP o h0 (p:=(List.range n).toArray) (Array.Perm.refl _)));obtain⟨a,b,c,d⟩:=h;by_cases e:r.fst<n
 .rw[A3 e];have hm:max r.fst 1=r.fst:=by omega
  rw[hm];exact YU o h0 (fun p x y=>⟨x,y⟩) _ _ _ a (by omega) d
 .rw[A5 e];have:r.fst=n:=by omega
  exact⟨a,this▸d⟩
end
end L2
namespace L2
open PySem PySem.Spec PyProof.Rows
noncomputable def mD:List PyData->Option (List Int)
 |[]=>some []
 |.int n::r=>(mD r).bind fun ns=>some (n::ns)
 |_=>none
theorem yO{h:Heap}:∀{ds:List PyData}{us:List Value}{as:List Addr}{ns:List Int},ReadsAll h us ds as->mD ds=some ns->IntsAre us ns
 |[],_,_,_=>fun r e=>by cases r;cases e;exact .nil
 |d::ds,_,_,_=>fun r e=>by
  cases r with
  |cons r1 r2=>
   cases d with
   |int n=>
    have e:(mD ds).bind (fun ns=>some (n::ns))=some _:=e;obtain⟨ms,h1,h2⟩:=Option.bind_eq_some_iff.mp e;cases h2;cases r1;exact .cons _ _ (yO r2 h1)
   |_=>cases e
noncomputable def gS:PyData->PyData->Option Bool
 |.int a,.int b=>some (decide (a<b))
 |.tuple xs,.tuple ys=>(mD xs).bind fun ns=>(mD ys).bind fun ms=>some (HT.lexLt ns ms)
 |_,_=>none
noncomputable def dH:List PyData->List PyData->Option Bool
 |[],ys=>some (decide (0<ys.length))
 |_::_,[]=>some false
 |x::xs,y::ys=>if PyData.eqv x y=true then dH xs ys else gS x y
noncomputable def isI:PyData->Bool
 |.int _=>true
 |_=>false
section
variable{prog:Program}{w:World}{A:Around}{E:Value->Shared->Prop}{s:Shared}
theorem aCY{p q:Value}{x y:PyData}{as bs:List Addr}{c fl:Bool}{Q:Bool->Shared->Prop}(hu:A.units<cLine)(r1:Reads s.heap p x as)(r2:Reads s.heap q y bs)(h:gS x y=some c)(hf:fl=true->isI x=true/\isI y=true)(k:Q c s):
 wpAny (model prog w) A (oneLt' fl p q) Q E s:=by
 unfold gS at h;split at h
 .rename_i a b;cases r1;cases r2;cases h;cases fl with
  |true=>exact oneLt_int k
  |false=>exact PySem.W.kat_one _ _ (lt_int k)
 .rename_i xs ys;obtain⟨ns,h1,h⟩:=Option.bind_eq_some_iff.mp h;obtain⟨ms,h2,h⟩:=Option.bind_eq_some_iff.mp h;cases h;cases fl with
  |true=>exact absurd (hf rfl).1 (by intro z;cases z)
  |false=>
   cases r1 with
   |tuple g1 g2 g3 g4=>
    cases r2 with
    |tuple k1 k2 k3 k4=>
     exact PySem.W.kat_one _ _ (HT.lt_tupInts ⟨_,g1,g2,_,g3⟩ ⟨_,k1,k2,_,k3⟩ (yO g4 h1) (yO k4 h2) hu k)
 .cases h
theorem UB{b fin c:Bool}{Q:Bool->Shared->Prop}(hu:A.units+64<cLine)(k:Q c s):∀(xs ys:List PyData)(us ws:List Value)(as bs:List Addr)(i:Nat),ReadsAll s.heap us xs as->ReadsAll s.heap ws ys bs->xs.all SeqAt.shaped=true->ys.all SeqAt.shaped=true->
 dH xs ys=some c->fin=decide (us.length<ws.length)->((b&&i==0)=true->xs.head?.all isI=true/\ys.head?.all isI=true)->PySem.W.KatLex prog w A b fin Q (us.zip ws) i s
 |[],ys=>fun us ws as bs i r1 r2 s1 s2 h hf hb=>by
  cases r1
  have hl:ws.length=ys.length:=by
   clear k h hf hb s2
   induction r2 using ReadsAll.rec (motive_1:=fun _ _ _ _=>True)with
   |nil=>rfl
   |cons _ _ _ ih=>simp[ih]
   |_=>trivial
  rw[List.zip_nil_left];refine PySem.W.kat_nil ?_;have h:some (decide (0<ys.length))=some c:=h;cases h;rw[hf,hl];exact k
 |x::xs,[]=>fun us ws as bs i r1 r2 s1 s2 h hf hb=>by
  cases r2;rw[List.zip_nil_right];refine PySem.W.kat_nil ?_;cases h;rw[hf];simpa using k
 |x::xs,y::ys=>fun us ws as bs i r1 r2 s1 s2 h hf hb=>by
  cases r1 with
  |cons a1 a2=>
   cases r2 with
   |cons b1 b2=>
    rw[List.all_cons,B4]at s1 s2;rw[List.zip_cons_cons];refine PySem.W.kat_cons ?_;refine SeqAt.eqAt_reads x y A s _ _ _ _ a1 b1 (O9 s1.1) (O9 s2.1) (SeqAt.room_of_shaped s1.1 hu) _ _ _ _ ?_;have h:(if PyData.eqv x y=true then dH xs ys else gS x y)=some c:=h;cases e:PyData.eqv x y with
    |true=>
     rw[e,A3 rfl]at h;refine PySem.W.kat_yes (UB hu k xs ys _ _ _ _ (i+1) a2 b2 s1.2 s2.2 h ?_ (fun z=>?_))
     .rw[hf];simp
     .simp at z
    |false=>
     rw[e,A5 A4]at h;refine PySem.W.kat_no (aCY (by omega) a1 b1 h (fun z=>?_) k);have:=hb z;simpa using this
end
open PySem PySem.W PyProof.Rows
noncomputable def WU{α:Type}(lt:Nat->Nat->Bool):KasT α->α
 |.ret a=>a
 |.ask i j k=>WU lt (k (lt i j))
noncomputable def KA{α:Type}(n:Nat):KasT α->(α->Prop)->Prop
 |.ret a,Q=>Q a
 |.ask i j k,Q=>i<n/\j<n/\∀b,KA n (k b) Q
section
variable{n:Nat}
theorem KA.bind{α β:Type}{f:α->KasT β}{Q:β->Prop}:∀{t:KasT α},KA n t (fun a=>KA n (f a) Q)->KA n (t.bind f) Q
 |.ret _=>fun h=>h
 |.ask _ _ _=>fun h=>⟨h.1,h.2.1,fun b=>KA.bind (h.2.2 b)⟩
theorem KA.ks{α:Type}{lt:Nat->Nat->Bool}{Q:α->Prop}:∀{t:KasT α},KA n t Q->KS lt n t (fun a=>a=WU lt t/\Q a)
 |.ret _=>fun h=>⟨rfl,h⟩
 |.ask i j _=>fun h=>⟨h.1,h.2.1,KA.ks (h.2.2 (lt i j))⟩
theorem KS.run{α:Type}{lt:Nat->Nat->Bool}{Q:α->Prop}:∀{t:KasT α},KS lt n t Q->Q (WU lt t)
 |.ret _=>fun h=>h
 |.ask i j k=>fun h=>KS.run (t:=k (lt i j)) h.2.2
theorem OZ{p:Array Nat}(hp:Inv2 n p)(h0:0<n){Q:Nat->Prop}(q:∀r,Q r):∀(f m:Nat),KA n (kas_asc p f m) Q
 |0=>fun m=>by rw[kas_asc.eq_def];exact q m
 |f+1=>fun m=>by
  rw[kas_asc.eq_def];refine⟨hp.ent h0 _,hp.ent h0 _,fun b=>?_⟩;cases b with
  |true=>exact q m
  |false=>exact OZ hp h0 q f (m+1)
theorem AQ(h0:0<n){Q:Array Nat×Nat×Nat->Prop}(k:∀p m q,Inv2 n p->Q (p,m,q)):∀(f:Nat)(p:Array Nat)(m q:Nat),Inv2 n p->KA n (kas_desc f p m q) Q
 |0=>fun p m q hp=>by rw[kas_desc.eq_def];exact k p m q hp
 |f+1=>fun p m q hp=>by
  rw[kas_desc.eq_def];refine⟨hp.ent h0 _,hp.ent h0 _,fun b=>?_⟩;cases b with
  |true=>
   dsimp only;rw[A3 rfl];by_cases hq:q > 0
   .rw[A3 hq];exact AQ h0 k f _ _ _ (gU hp _ _)
   .rw[A5 hq];exact AQ h0 k f _ _ _ hp
  |false=>
   dsimp only;rw[A5 A4];refine⟨hp.ent h0 _,hp.ent h0 _,fun b=>?_⟩;cases b with
   |true=>exact k p m q hp
   |false=>exact AQ h0 k f _ _ _ hp
theorem NI(h0:0<n){p:Array Nat}{m:Nat}(hp:Inv2 n p):KA n (kas_tail3 m n p) (fun r=>Inv2 n r.2):=by
 rw[kas_tail3.eq_def];exact KA.bind (OZ (gU hp 0 m) h0 (fun r=>gU hp 0 m) _ _)
theorem zJ(h0:0<n){p:Array Nat}{m:Nat}(hp:Inv2 n p):KA n (kas_descPart m n p) (fun r=>Inv2 n r.2):=by
 rw[kas_descPart.eq_def];refine KA.bind (AQ h0 (fun p' m' q' a=>?_) _ _ _ _ hp);show KA n (if q' > 0 then kas_tail3 m' n (kas_rev p' (m'-(q'+1)) m')else kas_tail3 m' n p') _;by_cases hq:q' > 0
 .rw[A3 hq];exact NI h0 (gU a _ _)
 .rw[A5 hq];exact NI h0 a
theorem ZS(h0:0<n){p:Array Nat}(hp:Inv2 n p):KA n (kas_count n p) (fun r=>Inv2 n r.2):=by
 rw[kas_count.eq_def];refine KA.bind (OZ hp h0 (fun r=>?_) _ _);by_cases e:(r==n)=true
 .rw[A3 e];exact hp
 .rw[A5 e];by_cases g:r > 1
  .rw[A3 g];refine⟨hp.ent h0 _,hp.ent h0 _,fun b=>?_⟩;cases b with
   |true=>exact hp
   |false=>exact zJ h0 (gU hp _ _)
  .rw[A5 g];exact zJ h0 hp
theorem BU(h0:0<n){p:Array Nat}(hp:Inv2 n p){k:Nat}{Q:Nat->Prop}(q:∀l,Q l):∀(f l r:Nat),KA n (kas_place p k f l r) Q
 |0=>fun l r=>by rw[kas_place.eq_def];exact q l
 |f+1=>fun l r=>by
  rw[kas_place.eq_def];show KA n (if l>=r then _ else _) Q;by_cases g:l>=r
  .rw[A3 g];exact q l
  .rw[A5 g];refine⟨hp.ent h0 _,hp.ent h0 _,fun b=>?_⟩;cases b with
   |true=>exact BU h0 hp q f _ _
   |false=>exact BU h0 hp q f _ _
theorem ZO(h0:0<n):∀(f:Nat)(p:Array Nat)(k:Nat),Inv2 n p->KA n (kas_bin f p k) (Inv2 n)
 |0=>fun p k hp=>by rw[kas_bin.eq_def];exact hp
 |f+1=>fun p k hp=>by
  rw[kas_bin.eq_def];exact KA.bind (BU h0 hp (fun l=>ZO h0 f _ (k+1) ((bubble_perm p k (k-l)).trans hp)) k 0 k)
theorem IR(h0:0<n):KA n (kas_sort n) (Inv2 n):=by
 unfold kas_sort;have:=ZS h0 (p:=(List.range n).toArray) (Array.Perm.refl _);refine KA.bind ?_
 have mono:∀{α:Type}{Q R:α->Prop}(m:∀a,Q a->R a)(t:KasT α),KA n t Q->KA n t R:=by
  intro α Q R m t
  induction t with
  |ret a=>exact m a
  |ask i j k ih=>exact fun h=>⟨h.1,h.2.1,fun b=>ih b (h.2.2 b)⟩
 refine mono (fun r a=>?_) _ this;by_cases e:r.fst<n
 .rw[A3 e];exact ZO h0 _ _ _ a
 .rw[A5 e];exact a
noncomputable def dY(lt:Nat->Nat->Bool)(n:Nat):List Nat:=(WU lt (kas_sort n)).toList
theorem mI(lt:Nat->Nat->Bool)(h0:0<n):(dY lt n).Perm (List.range n):=by
 have:=KS.run (KA.ks (lt:=lt) (IR h0));simpa[dY]using Array.perm_iff_toList_perm.mp this.2
end
end L2
namespace L2
variable{K:Fg}{H:Hp}{W:Wd}{σ:St}{M:Sto}
open PySem PySem.Spec PyProof.Rows
mutual
noncomputable def eR:PyData->Bool
 |.int _=>true
 |.tuple xs=>cY xs
 |_=>false
noncomputable def cY:List PyData->Bool
 |[]=>true
 |x::r=>eR x&&cY r
end
mutual
theorem rk{h h':Heap}(k:∀b o vs n,h.get? b=some o->o.data=.seq vs n->h'.get? b=some o):∀(d:PyData)(v:Value)(as:List Addr),eR d=true->Reads h v d as->Reads h' v d as
 |.int n=>fun _ _ _ r=>by cases r;exact .int _ _
 |.tuple xs=>fun _ _ e r=>by
  cases r with
  |tuple a b c d=>exact .tuple (k _ _ _ _ a c) b c (SM k xs _ _ (by unfold eR at e;exact e) d)
 |.none=>fun _ _ e _=>by unfold eR at e;cases e
 |.bool _=>fun _ _ e _=>by unfold eR at e;cases e
 |.str _=>fun _ _ e _=>by unfold eR at e;cases e
 |.list _=>fun _ _ e _=>by unfold eR at e;cases e
 |.dict _=>fun _ _ e _=>by unfold eR at e;cases e
theorem SM{h h':Heap}(k:∀b o vs n,h.get? b=some o->o.data=.seq vs n->h'.get? b=some o):∀(ds:List PyData)(vs:List Value)(as:List Addr),cY ds=true->ReadsAll h vs ds as->ReadsAll h' vs ds as
 |[]=>fun _ _ _ r=>by cases r;exact .nil
 |d::ds=>fun _ _ e r=>by
  cases r with
  |cons a b=>
   unfold cY at e;rw[B4]at e;exact .cons (rk k d _ _ e.1 a) (SM k ds _ _ e.2 b)
end
theorem ReadsAll.at{h:Heap}:∀{ds:List PyData}{vs:List Value}{as:List Addr}(i:Nat),ReadsAll h vs ds as->i<ds.length->∃bs,Reads h (vs.getD i .none) (ds.getD i .none) bs
 |[],_,_,i=>fun _ hi=>absurd hi (Nat.not_lt_zero _)
 |d::ds,_,_,0=>fun r _=>by cases r with|cons a b=>exact⟨_,a⟩
 |d::ds,_,_,i+1=>fun r hi=>by
  cases r with
  |cons a b=>
   obtain⟨bs,x⟩:=ReadsAll.at i b (Nat.lt_of_succ_lt_succ hi);exact⟨bs,x⟩
theorem ReadsAll.len{h:Heap}:∀{ds:List PyData}{vs:List Value}{as:List Addr},ReadsAll h vs ds as->vs.length=ds.length
 |[],_,_=>fun r=>by cases r;rfl
 |d::ds,_,_=>fun r=>by
  cases r with
  |cons a b=>simp[ReadsAll.len b]
section
variable{prog:Program}{w:World}{A:Around}{E:Value->Shared->Prop}{s:Shared}
theorem YC{b c:Bool}{p q:Value}{xs ys:List PyData}{as bs:List Addr}{Q:Bool->Shared->Prop}(hu:A.units+64<cLine)(r1:Reads s.heap p (.tuple xs) as)(r2:Reads s.heap q (.tuple ys) bs)
 (s1:xs.all SeqAt.shaped=true) (s2:ys.all SeqAt.shaped=true) (h:dH xs ys=some c) (hb:b=true->xs.head?.all isI=true/\ys.head?.all isI=true) (k:Q c s):wpAny (model prog w) A (keyLt' (tuples' b) p q) Q E s:=by
 cases r1 with
 |tuple a1 a2 a3 a4=>
  cases r2 with
  |tuple b1 b2 b3 b4=>
   refine PySem.W.kat_lt a1 a3 b1 b3 (UB hu k xs ys _ _ _ _ 0 a4 b4 s1 s2 h (by simp) (fun z=>hb ?_));simpa using z
noncomputable def kI(rows:List (List PyData)):Bool:=rows.all fun r=>match r with
 |.int _::_=>true
 |_=>false
noncomputable def qX(rows:List (List PyData)):Bool:=rows.all fun r=>match r with
 |.tuple _::_=>true
 |_=>false
theorem aFX{M:Model}{h:Heap}(n:Int)(t:Tok):PySem.W.Looks M h (typeOf (.int n t)) (.type "int"):=fun A Q E s _ q=>by
 show wpAny M A (pure _) Q E s;exact A6 q
theorem firstsI{h:Heap}:∀{rows:List (List PyData)}{vs:List Value}{as:List Addr},ReadsAll h vs (rows.map .tuple) as->kI rows=true->∃fs,PySem.W.KatTups h vs fs/\fs.length=rows.length/\∀v∈fs,∃n t,v=.int n t
 |[],_,_=>fun r _=>by cases r;exact⟨[],.nil,rfl,fun v hv=>nomatch hv⟩
 |x::rows,_,_=>fun r e=>by
  unfold kI at e;rw[List.all_cons,B4]at e;cases r with
  |cons a b=>
   obtain⟨fs,h1,h2,h3⟩:=firstsI b (by unfold kI;exact e.2);cases x with
   |nil=>exact absurd e.1 (by decide)
   |cons d ds=>
    cases d with
    |int n=>
     cases a with
     |tuple g1 g2 g3 g4=>
      rename_i o vs n' ;generalize hv:vs.toList=l at g4;cases g4 with
      |cons q1 q2=>
       cases q1 with
       |int _ t=>
        refine⟨.int n t::fs,.cons g1 g2 g3 (f:=.int n t) ?_ h1,by simp[h2],?_⟩
        .rw[<- Array.getElem?_toList,hv];rfl
        .intro v hv';rcases List.mem_cons.mp hv' with z|z
         .exact⟨_,_,z⟩
         .exact h3 v z
    |_=>exact absurd e.1 (by intro z;cases z)
end
section
variable{prog:Program}{w:World}{A:Around}{E:Value->Shared->Prop}{s:Shared}
theorem aFM{M:Model}{h:Heap}{a:Addr}{o:Obj}(g:h.get? a=some o)(c:o.cls=.type "tuple"):PySem.W.Looks M h (typeOf (.ref a)) (.type "tuple"):=fun A Q E s k q=>wpAny_typeOf (show s.TypeIs (.ref a) "tuple" from⟨o,k _ _ g,c⟩) q
theorem TZ{h:Heap}:∀{rows:List (List PyData)}{vs:List Value}{as:List Addr},ReadsAll h vs (rows.map .tuple) as->qX rows=true->∃fs,PySem.W.KatTups h vs fs/\fs.length=rows.length/\∀v∈fs,∃a o,v=.ref a/\h.get? a=some o/\o.cls=.type "tuple"
 |[],_,_=>fun r _=>by cases r;exact⟨[],.nil,rfl,fun v hv=>nomatch hv⟩
 |x::rows,_,_=>fun r e=>by
  unfold qX at e;rw[List.all_cons,B4]at e;cases r with
  |cons a b=>
   obtain⟨fs,h1,h2,h3⟩:=TZ b (by unfold qX;exact e.2);cases x with
   |nil=>exact absurd e.1 (by decide)
   |cons d ds=>
    cases d with
    |tuple ys=>
     cases a with
     |tuple g1 g2 g3 g4=>
      rename_i o vs n';generalize hv:vs.toList=l at g4;cases g4 with
      |cons q1 q2=>
       cases q1 with
       |@tuple a' _ _ _ _ _ k1 k2 k3 k4=>
        refine⟨.ref a'::fs,.cons g1 g2 g3 (f:=.ref a') ?_ h1,by simp[h2],?_⟩
        .rw[<- Array.getElem?_toList,hv];rfl
        .intro v hv';rcases List.mem_cons.mp hv' with z|z
         .exact⟨_,_,z,k1,k2⟩
         .exact h3 v z
    |_=>exact absurd e.1 (by intro z;cases z)
theorem GO{M:Model}{rows:List (List PyData)}{vs:List Value}{as:List Addr}{Q:SortKind->Shared->Prop}(r:ReadsAll s.heap vs (rows.map .tuple) as)(h0:0<rows.length)(hk:kI rows=true\/qX rows=true)(q:Q (tuples' (kI rows)) s):wpAny M A (keyKind' vs.toArray) Q E s:=by
 rcases hk with hk|hk
 .obtain⟨fs,h1,h2,h3⟩:=firstsI r hk;rw[hk]at q;refine PySem.W.kat_kind (T:=.type "int") h1 (by omega) (fun v hv=>?_) (by decide) q;obtain⟨n,t,rfl⟩:=h3 v hv;exact aFX n t
 .obtain⟨fs,h1,h2,h3⟩:=TZ r hk
  have e:kI rows=false:=by
   cases rows with
   |nil=>cases h0
   |cons x r=>
    unfold qX at hk;rw[List.all_cons,B4]at hk;cases x with
    |nil=>rfl
    |cons d ds=>cases d<;>first|rfl|exact absurd hk.1 (by intro z;cases z)
  rw[e]at q;refine PySem.W.kat_kind (T:=.type "tuple") h1 (by omega) (fun v hv=>?_) (by decide) q;obtain⟨a,o,rfl,g,c⟩:=h3 v hv;exact aFM g c
end
section
variable{X:Cx}{pins:List (Addr×Obj)}{σ:St}{H:Hp}{s:Shared}{h':Heap}
theorem dM.there{P:Program}{w:World}{h:Heap}{a:Addr}{o:HO}(x:dM P w H h a o):∃u,h.get? a=some u:=by
 induction o with
 |lst xs=>obtain⟨_,_,_,_,e⟩:=x;exact⟨_,e⟩
 |tup xs=>obtain⟨_,_,_,_,e,_⟩:=x;exact⟨_,e⟩
 |dK kvs=>obtain⟨_,_,_,_,o,_,_,e,_⟩:=x;exact⟨_,e⟩
 |dT kvs=>obtain⟨_,_,_,_,o,_,_,e,_⟩:=x;exact⟨_,e⟩
 |set S n=>obtain⟨o,_,_,_,e,_⟩:=x;exact⟨_,e⟩
 |ins C dx fs=>obtain⟨_,_,_,e,_⟩:=x;exact⟨_,e⟩
 |own y=>exact x
 |xd fs=>obtain⟨_,⟨_,_,_,e,_⟩,_⟩:=x;exact⟨_,e⟩
 |rng lo hi=>obtain⟨_,_,_,e⟩:=x;exact⟨_,e⟩
 |frz o u=>exact⟨_,x.1⟩
 |tbl ps=>exact⟨_,x⟩
 |met f x'=>exact⟨_,x⟩
 |ext φ=>exact x.2.1
theorem HOk.none{P:Program}{w:World}{h:Heap}{a:Addr}(x:HOk P w H h)(e:h.get? a=none):H a=none:=by
 cases q:H a with
 |none=>rfl
 |some o=>
  obtain⟨u,z⟩:=(x a o q).there;rw[e]at z;cases z
theorem Inv.laidL{a:Addr}{o:HO}(I:Inv X pins σ H s)(k:∀b u,b≠X.env.locals->s.heap.get? b=some u->h'.get? b=some u)(ns:∀m,s.heap.Ns X.env.locals m->h'.Ns X.env.locals m)(hp:s.heap.get? a=none)(new:dM X.prog X.w (upd H a o) h' a o):
 Inv X pins σ (upd H a o) { s with heap:=h' }:=by
 have hn:=I.hok.none hp;have nt:∀b u,H b=some u->b≠X.env.locals:=fun b u e z=>by rw[z,I.free]at e;cases e
 refine I.step (g':=s.gens) (t':=s.toks) (d':=s.drawn) (ch:=[]) (fun _ z=>nomatch z) (fun b o h1 _ _ e _=>k b o h1 e) (fun b o h1 _ _ e _=>⟨o.slots,k b o h1 e⟩) (fun b o _ e n=>?_) (fun b o _ e=>?_) (fun b xs e=>?_) (fun b o u e=>?_) (fun b ps e=>⟨#[],?_⟩) ns ?_ I.bare
 .rw[aL (fun z=>by subst z;rw[hp]at e;cases e)];exact n
 .by_cases z:b=X.env.locals
  .subst z;obtain⟨m,hm,_⟩:=I.loc;obtain⟨o',_,_,q,_⟩:=ns m hm;exact⟨o',q⟩
  .exact⟨o,k b o z e⟩
 .rw[aL (aQ e hn)];exact e
 .rw[aL (aQ e hn)];exact e
 .rw[aL (aQ e hn)];simpa using e
 .intro b u e;by_cases hb:b=a
  .subst hb;rw[aR]at e;cases e;exact new
  .rw[aL hb]at e;refine(I.hok b u e).stay (fun c v hc q=>k c v ?_ q) (fun c q=>by rw[aL (aQ q hn)];exact q) fun c xs q=>by rw[aL (aQ q hn)];exact q
   rcases hc with z|z
   .rw[z];exact nt b _ e
   .exact nt c _ z
theorem UR{h:Heap}{L:Addr}{m m':Str->Option Value}(a:h.Ns L m)(b:h.Ns L m'):m=m':=by
 obtain⟨o,es,ep,h1,h2,_,h3⟩:=a;obtain⟨o',es',ep',k1,k2,_,k3⟩:=b;rw[h1]at k1;cases k1;rw[h2]at k2;cases k2;funext x;rw[<- h3 x,k3 x]
noncomputable def eV(rows:List (List PyData))(i j:Nat):Bool:=(dH (rows.getD i []) (rows.getD j [])).getD false
noncomputable def PL(K:Fg):List V->Hp->VK->Prop:=fun xs H Q=>∃(p:Addr)(vs:List V)(rows:List (List PyData)),xs=[.ref p]/\SqL K H p vs/\aJ K H (rows.map .tuple) vs/\2<=rows.length/\rows.length<64 /\
 (∀r∈rows,r.all SeqAt.shaped=true/\cY r=true)/\(kI rows=true\/qX rows=true)/\(∀i j,i<rows.length->j<rows.length->(dH (rows.getD i []) (rows.getD j [])).isSome=true) /\
 ∀l,H l=none->Q (.ref l) (upd H l (.lst ((dY (eV rows) rows.length).map fun i=>vs.getD i .non)))
theorem yS{vs:List V}{us:List Value}(r:bK vs us):∀ps:List Nat,bK (ps.map fun i=>vs.getD i .non) (ps.map fun i=>us.getD i .none)
 |[]=>.nil
 |p::ps=>by
  refine .cons ?_ (yS r ps)
  have go:∀{vs:List V}{us:List Value}(i:Nat),bK vs us->RelV (vs.getD i .non) (us.getD i .none):=by
   intro vs us i r
   induction r generalizing i with
   |nil=>exact rfl
   |cons a b ih=>cases i with
    |zero=>exact a
    |succ i=>exact ih i
  exact go p r
theorem JG(hu:X.A.in1.in1.units+64<cLine):gO X (.builtin "sorted") (PL X.K):=by
 intro pins s σ H xs us Q I r h;obtain⟨p,vs,rows,rfl,hp,hrep,h2,h64,hsh,hknd,hlt,q⟩:=h;obtain⟨u,rfl,ru⟩:=vals1 r;cases ru;obtain⟨its,rv,pl,hz⟩:=I.list hp;obtain⟨as,hr⟩:=aJ.reads I _ vs its hrep rv;have hlen:its.length=rows.length:=by rw[ReadsAll.len hr,A8]
 obtain⟨m,F⟩:=I.fr;have N:News X.base X.env.locals s.heap (nA X.base s.heap X.env.locals):=MP;refine PySem.W.kat_sorted F N pl.isList (by omega) (by omega) fun D e1 h' F' N' hD=>?_
 have kp:∀(h1:Heap),Fr X.base X.env.locals h1 m->(∀q∈nA X.base s.heap X.env.locals,h1.get? q.1=some q.2)->∀b o,b≠X.env.locals->s.heap.get? b=some o->h1.get? b=some o:=fun h1 G1 M1 b o hb e=>by
  cases z:X.base.get? b with
  |some v=>
   have:=I.bk b v z;rw[e]at this;cases this;exact G1.keep b _ z
  |none=>exact M1 (b,o) (mQ hb z e)
 have k':=kp h' F' (fun q hq=>(N' q (B1 _ hq)).1)
 have hsz:s.heap.get? D=none:=by
  have hN:=N' _ B3;cases e:s.heap.get? D with
  |none=>rfl
  |some o=>exact absurd (hD (D,o) (mQ hN.2.1 hN.2.2 e)) (F6 _)
 have seqL:∀b o vs n,s.heap.get? b=some o->o.data=.seq vs n->b≠X.env.locals:=fun b o vs n e d z=>by
  obtain⟨o',es,ep,x1,x2,_⟩:=F.ns;subst z;rw[e]at x1;cases x1;rw[d]at x2;cases x2
 have onl:cY (rows.map .tuple)=true:=by
  clear hrep hr hlen q hknd hlt h2 h64
  induction rows with
  |nil=>rfl
  |cons x r ih=>
   show(cY x&&cY (r.map .tuple))=true;rw[(hsh x B3).2,ih fun y hy=>hsh y (B1 _ hy)];rfl
 have hr':ReadsAll h' its (rows.map .tuple) as:=SM (fun b o vs n e d=>k' b o (seqL b o vs n e d) e) _ _ _ onl hr;refine GO (s:={ s with heap:=h' }) hr' (by omega) hknd ?_;rw[hlen];refine KS.wp (lt:=eV rows) (n:=rows.length) (fun i j C hi hj c=>?_) (fun p hp'=>?_) ((IR (by omega)).ks (lt:=eV rows))
 .have at_:∀i,i<rows.length->∃bs,Reads h' (its.getD i .none) (.tuple (rows.getD i [])) bs:=fun i hi=>by
   obtain⟨bs,x⟩:=ReadsAll.at i hr' (by simpa using hi)
   have:(rows.map PyData.tuple).getD i .none=.tuple (rows.getD i []):=by
    rw[C2,D5,C2,B5 hi];rfl
   rw[this]at x;exact⟨bs,x⟩
  obtain⟨b1,r1⟩:=at_ i hi;obtain⟨b2,r2⟩:=at_ j hj
  have mem:∀i,i<rows.length->rows.getD i []∈rows:=fun i hi=>by
   rw[C2,B5 hi];exact L8 hi
  have hd:kI rows=true->∀r∈rows,r.head?.all isI=true:=fun z r hr=>by
   unfold kI at z;have:=List.all_eq_true.mp z r hr;cases r with
   |nil=>rfl
   |cons d ds=>cases d<;>first|rfl|exact absurd this (by intro z;cases z)
  obtain⟨c0,hc0⟩:=Option.isSome_iff_exists.mp (hlt i j hi hj);have hc:eV rows i j=c0:=by unfold eV;rw[hc0];rfl
  rw[hc]at c;exact YC (s:={ s with heap:=h' }) hu r1 r2 (hsh _ (mem i hi)).1 (hsh _ (mem j hj)).1 hc0 (fun z=>⟨hd z _ (mem i hi),hd z _ (mem j hj)⟩) c
 .obtain⟨e,_⟩:=hp';subst e;refine PySem.W.KasFin.intro F' N' (.head fun q hq=>B6 (hD q hq)) fun h'' c F'' N''=>?_;have k'':=kp h'' F'' (fun q hq=>(N'' q (B1 _ hq)).1);refine⟨.ref D,upd H D (.lst ((dY (eV rows) rows.length).map fun i=>vs.getD i .non)),?_,rfl,q D (I.hok.none hsz)⟩;refine I.laidL k'' (fun m' hm'=>?_) hsz ⟨?_,_,c,yS rv _,(N'' _ B3).1⟩
  .rw[<- UR F.ns hm'];exact F''.ns
  .rw[A8,(mI (eV rows) (by omega)).length_eq,List.length_range];have:64<=sizeLine:=by decide
   omega
end
noncomputable def rowsOf:List PyData->Option (List (List PyData))
 |[]=>some []
 |.tuple r::ds=>(rowsOf ds).bind fun rs=>some (r::rs)
 |_=>none
theorem zA:∀{ds:List PyData}{rows:List (List PyData)},rowsOf ds=some rows->ds=rows.map .tuple
 |[],_=>fun h=>by cases h;rfl
 |d::ds,rows=>fun h=>by
  cases d with
  |tuple r=>
   have h:(rowsOf ds).bind (fun rs=>some (r::rs))=some rows:=h;obtain⟨rs,h1,h2⟩:=Option.bind_eq_some_iff.mp h;cases h2;rw[zA h1];rfl
  |_=>cases h
noncomputable def sortable(rows:List (List PyData)):Bool:=decide (2<=rows.length)&&decide (rows.length<64)&&rows.all (fun r=>r.all SeqAt.shaped&&cY r)&&(kI rows || qX rows)&&(List.range rows.length).all fun i=>(List.range rows.length).all fun j=>(dH (rows.getD i []) (rows.getD j [])).isSome
noncomputable def FU(rows:List (List PyData)):List PyData:=(dY (eV rows) rows.length).map fun i=>.tuple (rows.getD i [])
noncomputable def AL:FN:=fun xs M=>match xs with
 |[.d (.list ds)]=>(rowsOf ds).bind fun rows=>if sortable rows=true then some (.d (.list (FU rows)),M)else none
 |[.c i]=>match M[i]? with
  |some (.lst ys)=>(iQ ys).bind fun ds=>(rowsOf ds).bind fun rows=>if sortable rows=true then some (.d (.list (FU rows)),M)else none
  |_=>none
 |_=>none
theorem kL{rows:List (List PyData)}(h:sortable rows=true):2<=rows.length/\rows.length<64/\(∀r∈rows,r.all SeqAt.shaped=true/\cY r=true)/\(kI rows=true\/qX rows=true)/\(∀i j,i<rows.length->j<rows.length->(dH (rows.getD i []) (rows.getD j [])).isSome=true):=by
 unfold sortable at h;rw[B4,B4,B4,B4,Bool.or_eq_true]at h;obtain⟨⟨⟨⟨h1,h2⟩,h3⟩,h4⟩,h5⟩:=h;refine⟨C3 h1,C3 h2,fun r hr=>?_,h4,fun i j hi hj=>?_⟩
 .have:=List.all_eq_true.mp h3 r hr
  rwa [B4]at this
 .exact List.all_eq_true.mp (List.all_eq_true.mp h5 i (List.mem_range.mpr hi)) j (List.mem_range.mpr hj)
section
variable{K:Fg}
theorem aJ.len{H:Hp}:∀{ds:List PyData}{vs:List V},aJ K H ds vs->vs.length=ds.length
 |[],_=>fun h=>by
  have h:_=[]:=h;rw[h];rfl
 |d::ds,_=>fun h=>by
  obtain⟨v,r,rfl,_,h2⟩:=(show ∃v r,_=v::r/\Rep K H d v/\aJ K H ds r from h);simp[aJ.len h2]
theorem wN{H:Hp}{rows:List (List PyData)}{us:List V}(r:aJ K H (rows.map .tuple) us):∀ps:List Nat,(∀i∈ps,i<rows.length)->aJ K H (ps.map fun i=>.tuple (rows.getD i [])) (ps.map fun i=>us.getD i .non)
 |[]=>fun _=>rfl
 |p::ps=>fun hp=>by
  refine⟨_,_,rfl,?_,wN r ps fun i hi=>hp i (B1 _ hi)⟩;have hi:=hp p B3;have hl:=aJ.len r;rw[A8]at hl
  have hu:us[p]?=some (us.getD p .non):=by
   rw[C2,B5 (by omega)];rfl
  obtain⟨d,h1,h2⟩:=aJ.get r hu;rw[D5,B5 hi]at h1;cases h1;have e:rows.getD p []=rows[p]:=by rw[C2,B5 hi];rfl
  show Rep K H (.tuple (rows.getD p [])) (us.getD p .non);rw[e];exact h2
theorem YF{lt:Nat->Nat->Bool}{n:Nat}(h0:0<n):∀i∈dY lt n,i<n:=fun i hi=>List.mem_range.mp ((mI lt h0).mem_iff.mp hi)
theorem UU:PN K (PL K) AL:=by
 intro xs M z M' h W H vs Q G r k;unfold AL at h;split at h
 .rename_i ds;obtain⟨rows,h1,h⟩:=aG h;by_cases hs:sortable rows=true
  .rw[A3 hs]at h;cases h;obtain⟨a1,a2,a3,a4,a5⟩:=kL hs;sleep 12;sleep 17;rw[zA h1]at hr;refine⟨p,us,rows,rfl,G.fh.seq hq,aJ.same G.fh _ _ hr,a1,a2,a3,a4,a5,fun l hl=>?_⟩;obtain⟨e2,G2⟩:=G.lay (o:=.lst ((dY (eV rows) rows.length).map fun i=>us.getD i .non)) hl;exact k _ _ _ e2 G2 ⟨l,_,rfl,SqL.of aR,wN (aJ.same e2.ff _ _ hr) _ (YF (by omega))⟩
  .rw[A5 hs]at h;cases h
 .rename_i i;split at h
  .rename_i ys hy;obtain⟨ds,h0,h⟩:=aG h;obtain⟨rows,h1,h⟩:=aG h;by_cases hs:sortable rows=true
   .rw[A3 hs]at h;cases h;obtain⟨a1,a2,a3,a4,a5⟩:=kL hs;sleep 12;obtain⟨us,hv,hr⟩:=G.lstAt hy;have hr:=dO h0 hr;rw[zA h1]at hr;rw[r1.2];refine⟨_,us,rows,rfl,SqL.of hv,aJ.same G.fh _ _ hr,a1,a2,a3,a4,a5,fun l hl=>?_⟩;obtain⟨e2,G2⟩:=G.lay (o:=.lst ((dY (eV rows) rows.length).map fun i=>us.getD i .non)) hl;exact k _ _ _ e2 G2 ⟨l,_,rfl,SqL.of aR,wN (aJ.same e2.ff _ _ hr) _ (YF (by omega))⟩
   .rw[A5 hs]at h;cases h
  .cases h
 .cases h
end
theorem cB.units2{k:Nat}{A:Around}(r:cB k A):A.in1.in1.units+64<cLine:=by have:=r.un;show A.units+1+1+64<_;omega
section
variable{prog:Program}{w:World}{A:Around}{E:Value->Shared->Prop}{s:Shared}
theorem qR{a:Addr}{vs:List Value}{n:Nat}{P:PySem.Fin->Shared->Prop}(g:s.heap.get? a=some (seqObj "list" vs.toArray n))(h2:vs.length<2)
 (k:P (.done (.ret .none)) { s with heap:=sortedHeap s.heap a vs vs.toArray }):wpAny (model prog w) A (Builtin.«list.sort» ⟨[.ref a],[]⟩) P E s:=by
 rw[list_sort_plain];have hz:vs.toArray.size<=sizeLine:=by rw[D0,E1];omega
 refine A0 (listItems_at g rfl ?_);refine A0 (listUpdate_at g rfl ?_ hz (by simp));have g1:=Y3 g (fun _=>#[]);have hlt:=B0 g1;refine A0 (seqEpoch_at g1 rfl ?_);refine A0 (wpAny_newTuple ?_ (by simpa using hz));refine A0 (wpAny_newList ?_);refine E2 ?_;have hs:vs.toArray.size<2:=by simpa using h2
 dsimp only;rw[A3 hs,A3 hs];refine A0 (A6 ?_);refine A0 ?_;show wpAny (model prog w) A (pure ((),SortSt.mk' general' (vs.toArray.zip vs.toArray) #[] 7 none)) _ E _;refine A6 ?_;dsimp only;have g2:=A2 { cls:=.type "tuple",data:=.seq vs.toArray.toList.toArray } g1;have g3:=A2 { cls:=.type "list",data:=.seq ([]:List Value).toArray } g2;refine A0 (seqEpoch_at g3 rfl ?_)
 have hm:Array.map (fun x=>x.snd) (arrOf (SortSt.mk' general' (vs.toArray.zip vs.toArray) #[] 7 none))=vs.toArray:=by
  show Array.map (fun x=>x.snd) (vs.toArray.zip vs.toArray)=vs.toArray
  apply Array.ext
  .simp
  .intro i h1 h2;simp
 rw[hm];refine A0 (listUpdate_at g3 rfl ?_ (by simp) (by omega));rw[A5 (by simp)];exact A6 k
theorem IY{l:Addr}{vs:List Value}{Q:Value->Shared->Prop}(g:s.heap.IsList l vs.toArray)(h2:vs.length<2)
 (k:∀(h':Heap)(D:Addr),(∀b o,s.heap.get? b=some o->h'.get? b=some o)->s.heap.objs.size<=D->(∃c,h'.get? D=some (seqObj "list" vs.toArray c))->Q (.ref D) { s with heap:=h' }):wpAny (model prog w) A (call (.builtin "sorted") [.ref l]) Q E s:=by
 refine Calls.call_function_entry kind_sorted plain_sorted entry_sorted (args_sorted1 _) ?_;have hz:vs.length<=sizeLine:=by rw[E1];omega
 unfold Builtin.sorted;refine A0 (show wpAny _ _ (pure ()) _ _ _ from A6 ?_);refine A0 (collect_list g ?_ hz);refine A0 (wpAny_newList ?_ hz);generalize hh1:(s.heap.push (seqObj "list" #[] 0)).update s.heap.objs.size (Obj.mapSeq fun x=>x++vs.toArray)=h1
 have k1:∀b o,s.heap.get? b=some o->h1.get? b=some o:=fun b o e=>by
  rw[<- hh1,U6 _ _ _ _ (B6 (B0 e))];exact A2 _ e
 have sz1:s.heap.objs.size<=h1.objs.size:=by
  have e1:(s.heap.push (seqObj "list" #[] 0)).get? s.heap.objs.size=some (seqObj "list" #[] 0):=B7 _ rfl;have e2:=Y3 e1 (fun x=>x++vs.toArray);rw[hh1]at e2;exact S5 (B0 e2)
 refine A0 (E2 ?_);have gD:(h1.push { cls:=.type "list",data:=.seq vs.toArray }).get? h1.objs.size=some (seqObj "list" vs.toArray 0):=B7 _ rfl;refine J3 slot_list_sort ⟨_,gD,rfl⟩ entry_list_sort (qR gD h2 ⟨_,rfl,?_⟩) (args_list_sort _);refine A6 ⟨_,rfl,k _ _ (fun b o e=>?_) sz1 ?_⟩
 .have hb:b≠h1.objs.size:=B6 (B0 (k1 b o e));unfold sortedHeap;rw[U6 _ _ _ _ hb];refine A2 _ (A2 _ ?_);rw[U6 _ _ _ _ hb];exact A2 _ (k1 b o e)
 .unfold sortedHeap;have g1:=Y3 gD (fun _=>#[]);have g2:=A2 (seqObj "tuple" vs.toArray 0) g1;have g3:=A2 (seqObj "list" #[] 0) g2;exact⟨_,Y3 g3 (fun _=>vs.toArray)⟩
end
noncomputable def QH(K:Fg):List V->Hp->VK->Prop:=fun xs H Q=>∃(p:Addr)(vs:List V),xs=[.ref p]/\SqL K H p vs/\vs.length<2/\∀l,H l=none->Q (.ref l) (upd H l (.lst vs))
theorem IG{X:Cx}:gO X (.builtin "sorted") (QH X.K):=by
 intro pins s σ H xs us Q I r h;obtain⟨p,vs,rfl,hp,h2,q⟩:=h;obtain⟨u,rfl,ru⟩:=vals1 r;cases ru;obtain⟨its,rv,pl,hz⟩:=I.list hp;have hl:=rv.length;refine IY pl.isList (by omega) fun h' D k hD ⟨c,g⟩=>?_;exact⟨.ref D,upd H D (.lst vs),I.laid (t':=s.toks) k hD ⟨hz,its,c,rv,g⟩,rfl,q D (I.hok.fresh hD)⟩
noncomputable def aAt(K:Fg):List V->Hp->VK->Prop:=fun xs H Q=>PL K xs H Q\/QH K xs H Q
theorem aIb{X:Cx}(h:X.K=K)(hu:X.A.in1.in1.units+64<cLine):gO X (.builtin "sorted") (aAt K):=by
 subst h;intro pins s σ H xs us Q I r h;rcases h with h|h
 .exact JG hu pins s σ H xs us Q I r h
 .exact IG pins s σ H xs us Q I r h
noncomputable def CB:FN:=fun xs M=>match xs with
 |[.d (.list ds)]=>if ds.length<2 then some (.d (.list ds),M)else none
 |[.c i]=>match M[i]? with
  |some (.lst ys)=>(iQ ys).bind fun ds=>if ds.length<2 then some (.d (.list ds),M)else none
  |_=>none
 |_=>none
theorem aBj:PN K (QH K) CB:=by
 intro xs M z M' h W H vs Q G r k;unfold CB at h;split at h
 .rename_i ds;by_cases hs:ds.length<2
  .rw[A3 hs]at h;cases h;sleep 12;sleep 17;refine⟨p,us,rfl,G.fh.seq hq,by rw[aJ.len hr];exact hs,fun l hl=>?_⟩;obtain⟨e2,G2⟩:=G.lay (o:=.lst us) hl;exact k _ _ _ e2 G2 ⟨l,_,rfl,SqL.of aR,aJ.same e2.ff _ _ hr⟩
  .rw[A5 hs]at h;cases h
 .rename_i i;split at h
  .rename_i ys hy;obtain⟨ds,h0,h⟩:=aG h;by_cases hs:ds.length<2
   .rw[A3 hs]at h;cases h;sleep 12;obtain⟨us,hv,hr⟩:=G.lstAt hy;have hr:=dO h0 hr;rw[r1.2];refine⟨_,us,rfl,SqL.of hv,by rw[aJ.len hr];exact hs,fun l hl=>?_⟩;obtain⟨e2,G2⟩:=G.lay (o:=.lst us) hl;exact k _ _ _ e2 G2 ⟨l,_,rfl,SqL.of aR,aJ.same e2.ff _ _ hr⟩
   .rw[A5 hs]at h;cases h
  .cases h
 .cases h
noncomputable def wB:FN:=fun xs M=>match CB xs M with
 |some r=>some r
 |none=>AL xs M
theorem aBb:PN K (aAt K) wB:=by
 intro xs M z M' h W H vs Q G r k;unfold wB at h;split at h
 .rename_i q hq;cases h;exact .inr (aBj xs M z M' hq W H vs Q G r k)
 .exact .inl (UU xs M z M' h W H vs Q G r k)
theorem aCS{ι:Type}{X:ι->Cx}(hK:∀i,(X i).K=K)(hu:∀i,(X i).A.in1.in1.units+64<cLine):QN K X (.builtin "sorted") wB:=⟨_,fun i=>aIb (hK i) (hu i),aBb⟩
mutual
theorem IA:∀(x y:PyData),eR x=true->eR y=true->(PyData.eqv x y=true↔x=y)
 |.int a,.int b=>fun _ _=>by rw[PyData.eqv.eq_def];simp
 |.int a,.tuple b=>fun _ _=>by rw[PyData.eqv.eq_def];simp
 |.tuple a,.int b=>fun _ _=>by rw[PyData.eqv.eq_def];simp
 |.tuple xs,.tuple ys=>fun h k=>by
  unfold eR at h k;rw[PyData.eqv.eq_def];have:=aFv xs ys h k;simpa using this
 |.none,_=>fun h _=>by unfold eR at h;cases h
 |.bool _,_=>fun h _=>by unfold eR at h;cases h
 |.str _,_=>fun h _=>by unfold eR at h;cases h
 |.list _,_=>fun h _=>by unfold eR at h;cases h
 |.dict _,_=>fun h _=>by unfold eR at h;cases h
 |.int _,.none=>fun _ h=>by unfold eR at h;cases h
 |.int _,.bool _=>fun _ h=>by unfold eR at h;cases h
 |.int _,.str _=>fun _ h=>by unfold eR at h;cases h
 |.int _,.list _=>fun _ h=>by unfold eR at h;cases h
 |.int _,.dict _=>fun _ h=>by unfold eR at h;cases h
 |.tuple _,.none=>fun _ h=>by unfold eR at h;cases h
 |.tuple _,.bool _=>fun _ h=>by unfold eR at h;cases h
 |.tuple _,.str _=>fun _ h=>by unfold eR at h;cases h
 |.tuple _,.list _=>fun _ h=>by unfold eR at h;cases h
 |.tuple _,.dict _=>fun _ h=>by unfold eR at h;cases h
theorem aFv:∀(xs ys:List PyData),cY xs=true->cY ys=true->(PyData.eqvAll xs ys=true↔xs=ys)
 |[],[]=>fun _ _=>by rw[Z0];simp
 |[],_::_=>fun _ _=>by rw[Z0];simp
 |_::_,[]=>fun _ _=>by rw[Z0];simp
 |x::xs,y::ys=>fun h k=>by
  unfold cY at h k;rw[B4]at h k;rw[Z0];show(PyData.eqv x y&&PyData.eqvAll xs ys)=true↔_;rw[B4,IA x y h.1 k.1,aFv xs ys h.2 k.2,List.cons.injEq]
end
theorem aBl:∀a b:List Int,HT.lexLt a b=true->HT.lexLt b a=false
 |[],[]=>fun h=>by cases h
 |[],_::_=>fun _=>rfl
 |_::_,[]=>fun h=>by cases h
 |x::xs,y::ys=>fun h=>by
  rw[HT.lexLt_cons]at h ⊢;by_cases e:x=y
  .rw[A3 e]at h;rw[A3 e.symm];exact aBl xs ys h
  .rw[A5 e]at h;rw[A5 (F4 e)];have:=C3 h;exact B9 (by omega)
theorem ZR:∀a b c:List Int,HT.lexLt b a=false->HT.lexLt c b=false->HT.lexLt c a=false
 |[],_,[]=>fun _ _=>rfl
 |[],_,_::_=>fun _ _=>rfl
 |x::xs,[],_=>fun h _=>by cases h
 |x::xs,y::ys,[]=>fun _ h=>by cases h
 |x::xs,y::ys,z::zs=>fun h k=>by
  rw[HT.lexLt_cons]at h k ⊢;by_cases e:y=x
  .rw[A3 e]at h;by_cases e':z=y
   .rw[A3 e']at k;rw[A3 (e'.trans e)];exact ZR xs ys zs h k
   .rw[A5 e']at k;subst e;rw[A5 e'];exact k
  .rw[A5 e]at h;have h:=E8 h;by_cases e':z=y
   .subst e';rw[A5 e];exact B9 h
   .rw[A5 e']at k;have k:=E8 k;rw[A5 (by omega)];exact B9 (by omega)
theorem aBd:∀a b:List Int,HT.lexLt a b=false->HT.lexLt b a=false->a=b
 |[],[]=>fun _ _=>rfl
 |[],_::_=>fun h _=>by cases h
 |_::_,[]=>fun _ h=>by cases h
 |x::xs,y::ys=>fun h k=>by
  rw[HT.lexLt_cons]at h k;by_cases e:x=y
  .rw[A3 e]at h;rw[A3 e.symm]at k;rw[e,aBd xs ys h k]
  .rw[A5 e]at h;rw[A5 (F4 e)]at k;have h:=E8 h;have k:=E8 k;omega
theorem VY:∀{xs ys:List PyData}{ns:List Int},mD xs=some ns->mD ys=some ns->xs=ys:=by
 have go:∀{xs:List PyData}{ns:List Int},mD xs=some ns->xs=ns.map .int:=by
  intro xs
  induction xs with
  |nil=>intro ns h;cases h;rfl
  |cons d ds ih=>
   intro ns h;cases d with
   |int n=>
    have h:(mD ds).bind (fun ns=>some (n::ns))=some ns:=h;obtain⟨ms,h1,h2⟩:=Option.bind_eq_some_iff.mp h;cases h2;rw[ih h1];rfl
   |_=>cases h
 intro xs ys ns h k;rw[go h,go k]
theorem tQ{x y:PyData}{c:Bool}(h:gS x y=some c):(∃a b,x=.int a/\y=.int b/\c=decide (a<b))\/∃xs ys ns ms,x=.tuple xs/\y=.tuple ys/\mD xs=some ns/\mD ys=some ms/\c=HT.lexLt ns ms:=by
 unfold gS at h;split at h
 .cases h;exact .inl ⟨_,_,rfl,rfl,rfl⟩
 .obtain⟨ns,h1,h⟩:=Option.bind_eq_some_iff.mp h;obtain⟨ms,h2,h⟩:=Option.bind_eq_some_iff.mp h;cases h;exact .inr ⟨_,_,_,_,rfl,rfl,h1,h2,rfl⟩
 .cases h
theorem NC{x y:PyData}{c:Bool}(h:gS x y=some c):∃d,gS y x=some d/\(c=true->d=false)/\(c=false->d=false->x=y):=by
 rcases tQ h with⟨a,b,rfl,rfl,rfl⟩|⟨xs,ys,ns,ms,rfl,rfl,h1,h2,rfl⟩
 .refine⟨decide (b<a),rfl,fun z=>B9 (by have:=C3 z;omega),fun z z'=>?_⟩;have z:=E8 z;have z':=E8 z';rw[show a=b by omega]
 .refine⟨HT.lexLt ms ns,?_,fun z=>aBl _ _ z,fun z z'=>?_⟩
  .show(mD ys).bind _=_;rw[h2];show(mD xs).bind _=_;rw[h1];rfl
  .have:=aBd _ _ z z';subst this;rw[VY h1 h2]
theorem aEg{x y z:PyData}(h:gS y x=some false)(k:gS z y=some false):gS z x=some false:=by
 rcases tQ h with⟨a,b,rfl,rfl,hh⟩|⟨xs,ys,ns,ms,rfl,rfl,h1,h2,hh⟩
 .rcases tQ k with⟨c,d,rfl,e,kk⟩|⟨_,_,_,_,_,e,_⟩
  .cases e;have hh:=E8 hh.symm;have kk:=E8 kk.symm;show some (decide (c<b))=some false;rw[B9 (by omega)]
  .cases e
 .rcases tQ k with⟨c,d,rfl,e,kk⟩|⟨zs,ys',ns',ms',rfl,e,k1,k2,kk⟩
  .cases e
  .cases e;rw[h1]at k2;cases k2;have:=ZR _ _ _ hh.symm kk.symm;show(mD zs).bind _=_;rw[k1];show(mD ys).bind _=_;rw[h2];show some _=some false;rw[this]
theorem aBF:∀a b:List PyData,cY a=true->cY b=true->dH a b=some true->dH b a=some false
 |[],[]=>fun _ _ h=>by cases h
 |[],_::_=>fun _ _ _=>rfl
 |_::_,[]=>fun _ _ h=>by cases h
 |x::xs,y::ys=>fun p q h=>by
  unfold cY at p q;rw[B4]at p q;have h:(if PyData.eqv x y=true then dH xs ys else gS x y)=some true:=h;show(if PyData.eqv y x=true then dH ys xs else gS y x)=some false;by_cases e:PyData.eqv x y=true
  .rw[A3 e]at h;have e':=(IA x y p.1 q.1).mp e;rw[A3 ((IA y x q.1 p.1).mpr e'.symm)];exact aBF xs ys p.2 q.2 h
  .rw[A5 e]at h;rw[A5 fun z=>e ((IA x y p.1 q.1).mpr ((IA y x q.1 p.1).mp z).symm)];obtain⟨d,h1,h2,_⟩:=NC h;rw[h1,h2 rfl]
theorem aAS:∀a b c:List PyData,cY a=true->cY b=true->cY c=true->dH b a=some false->dH c b=some false->dH c a=some false
 |[],_,[]=>fun _ _ _ _ _=>rfl
 |[],_,_::_=>fun _ _ _ _ _=>rfl
 |x::xs,[],_=>fun _ _ _ h _=>by cases h
 |x::xs,y::ys,[]=>fun _ _ _ _ h=>by cases h
 |x::xs,y::ys,z::zs=>fun p q r h k=>by
  unfold cY at p q r;rw[B4]at p q r;have hA:(if PyData.eqv y x=true then dH ys xs else gS y x)=some false:=h;clear h;have kA:(if PyData.eqv z y=true then dH zs ys else gS z y)=some false:=k;clear k;show(if PyData.eqv z x=true then dH zs xs else gS z x)=some false;by_cases e:PyData.eqv y x=true
  .rw[A3 e]at hA;have e1:=(IA y x q.1 p.1).mp e;subst e1;by_cases e':PyData.eqv z y=true
   .rw[A3 e']at kA ⊢;exact aAS xs ys zs p.2 q.2 r.2 hA kA
   .rw[A5 e']at kA ⊢;exact kA
  .rw[A5 e]at hA;by_cases e':PyData.eqv z y=true
   .have e1:=(IA z y r.1 q.1).mp e';subst e1;rw[A5 e];exact hA
   .rw[A5 e']at kA
    have ez:¬PyData.eqv z x=true:=fun w=>by
     have w:=(IA z x r.1 p.1).mp w;subst w;obtain⟨d,h1,_,h3⟩:=NC hA;rw[h1]at kA;cases kA;exact e ((IA y z q.1 p.1).mpr (h3 rfl rfl))
    rw[A5 ez];exact aEg hA kA
theorem aCi{rows:List (List PyData)}(h:sortable rows=true):xN (eV rows):=by
 obtain⟨a1,a2,a3,a4,a5⟩:=kL h
 have onl:∀i,cY (rows.getD i [])=true:=fun i=>by
  rw[C2];cases e:rows[i]? with
  |none=>rfl
  |some r=>exact(a3 r (List.mem_of_getElem? e)).2
 have out:∀i,¬i<rows.length->rows.getD i []=[]:=fun i hi=>by
  rw[C2,List.getElem?_eq_none (by omega)];rfl
 have ans:∀i j,∃c,dH (rows.getD i []) (rows.getD j [])=some c:=fun i j=>by
  by_cases hi:i<rows.length
  .by_cases hj:j<rows.length
   .exact Option.isSome_iff_exists.mp (a5 i j hi hj)
   .rw[out j hj];cases rows.getD i []with
    |nil=>exact⟨_,rfl⟩
    |cons _ _=>exact⟨_,rfl⟩
  .rw[out i hi];exact⟨_,rfl⟩
 have is:∀i j c,eV rows i j=c->dH (rows.getD i []) (rows.getD j [])=some c:=fun i j c e=>by
  obtain⟨d,hd⟩:=ans i j;unfold eV at e;rw[hd]at e ⊢;exact O2 some e
 have un:∀i j c,dH (rows.getD i []) (rows.getD j [])=some c->eV rows i j=c:=fun i j c e=>by
  unfold eV;rw[e];rfl
 exact⟨fun a b e=>un _ _ _ (aBF _ _ (onl a) (onl b) (is _ _ _ e)),fun a b c e e'=>un _ _ _ (aAS _ _ _ (onl a) (onl b) (onl c) (is _ _ _ e) (is _ _ _ e'))⟩
theorem FE{rows:List (List PyData)}(h:sortable rows=true):jE (eV rows) (WU (eV rows) (PySem.W.kas_sort rows.length)) rows.length:=
 (KS.run (aEs (aCi h) (by have:=(kL h).1;omega))).2
noncomputable def TrS(h B:Heap)(e:Addr)(vs:Array Value):Option Value->Prop
 |none=>vs[1]?=some .none
 |some fl=>∃T oT ts,vs[1]?=some (.ref T)/\B.get? T=none/\T≠e/\h.get? T=some oT/\oT.data=.fields ts/\ts[3]?=some fl
noncomputable def Tr(h B:Heap)(e:Addr)(c:Value)(dx:Option Addr)(st:Option Value):Prop:=
 ∃oe vs,h.get? e=some oe/\(oe.cls=c/\oe.dict=dx)/\oe.data=.fields vs/\1<vs.size/\TrS h B e vs st
structure Fly(B:Heap)(l:List Env)(e:Addr)(c:Value)(dx:Option Addr)(st:Option Value)(h:Heap):Prop where
 stays:B.StaysIn h
 new:B.get? e=none
 frames:h.FunFrames B l
 tr:Tr h B e c dx st
theorem Fly.obj{B h:Heap}{l:List Env}{e:Addr}{c:Value}{dx:Option Addr}{st:Option Value}(F:Fly B l e c dx st h):∃oe vs,h.get? e=some oe/\oe.cls=c/\oe.dict=dx/\oe.data=.fields vs:=by
 obtain⟨oe,vs,h1,h2,h3,_⟩:=F.tr;exact⟨oe,vs,h1,h2.1,h2.2,h3⟩
theorem aEc(o:Obj)(f:Array Value->Array Value):(o.mapFields f).dict=o.dict:=by
 obtain⟨c,d,dt,sl⟩:=o;cases dt<;>rfl
section
variable{M:Model}{A:Around}{E:Value->Shared->Prop}{s:Shared}{B:Heap}{env:Env}{outer l:List Env}{L e:Addr}{c:Value}{dx:Option Addr}{st:Option Value}{Q:Unit->Shared->Prop}
theorem mE{h:Heap}{a b:Addr}{o oa:Obj}{vs:Array Value}(ha:h.get? a=some oa)(hd:oa.data=.fields vs)(hb:h.get? b=some o)(hn:∀ws,o.data≠.fields ws):b≠a:=fun q=>by
 subst q;rw[ha]at hb;cases hb;exact hn vs hd
theorem NQ{oe:Obj}{vs:Array Value}{hd:Value}{nx:Bool}(hfr:A.frames=some (env::outer))(hf:env.frame=some L)(stays:B.StaysIn s.heap)(new:B.get? e=none)(fr:s.heap.FunFrames B (env::outer))
 (he:s.heap.get? e=some oe) (hk:oe.cls=c/\oe.dict=dx) (hv:oe.data=.fields vs) (hz:1<vs.size)
 (q:∀h',Fly B (env::outer) e c dx (some (rawInt L)) h'->s.heap.UpToSlots h'->Q () { s with heap:=h' }):
 wpAny M A (do let a <- frameOf env;let pl <- entryPlaceOf L nx;let b <- EntryCells.newEntry hd a .none (rawInt L) .none pl;setField (.ref e) 1 b) Q E s:=by
 have notF:e∉(env::outer).filterMap (·.frame):=fun hm=>by
  obtain⟨_,o,ho,hnf⟩:=fr.mem hm;exact mE he hv ho hnf rfl
 refine A0 (wpAny_frameOf_fun hfr fr hf fun g1 so=>A0 (wpAny_entryPlaceOf fun pl hpl=>?_));unfold EntryCells.newEntry newFields;refine A0 (D7 ?_ (hpl.sizeOk5 _ _ _ _ _));generalize hnw:({ cls:=.type "traceback",dict:=none,data:=.fields ([hd,Value.ref L,.none,rawInt L,.none]++(if pl.isEmpty then List.replicate 6 Value.none else pl)).toArray }:Obj)=nw;have nwd:nw.data=.fields ([hd,Value.ref L,.none,rawInt L,.none]++(if pl.isEmpty then List.replicate 6 Value.none else pl)).toArray:=by rw[<- hnw]
 have e1:g1.get? e=some oe:=(so.2.1 e notF).trans he;have st1:B.StaysIn g1:=fun b o hb=>(so.2.1 b fun hm=>by rw[(fr.mem hm).1]at hb;cases hb).trans (stays b o hb);have e2:(g1.push nw).get? e=some oe:=A2 nw e1;refine U9 e2 hv hz (q _ ?_ ?_)
 all_goals
  have nTe:g1.objs.size≠e:=F7 (B0 e1);have e3:=F8 (Obj.mapFields (·.setIfInBounds 1 (Value.ref g1.objs.size))) e2 (Obj.isFreed_of_fields (S0 hv _))
  have kp:∀b o,b≠e->g1.get? b=some o->((g1.push nw).update e (Obj.mapFields (·.setIfInBounds 1 (Value.ref g1.objs.size)))).get? b=some o:=fun b o hbe hb=>by
   rw[D9 _ _ (F4 hbe)];exact A2 _ hb
 .refine⟨fun b o hb=>kp b o (fun z=>by rw[z,new]at hb;cases hb) (st1 b o hb),new,fr.of_keeps fun b o hb hnf=>?_,?_⟩
  .obtain⟨sl,hs⟩:=so.2.2 b o hb;exact⟨_,kp b _ (mE he hv hb hnf) hs,rfl⟩
  .refine⟨_,_,e3,⟨(Obj.cls_mapFields _ _).trans hk.1,(aEc _ _).trans hk.2⟩,S0 hv _,by simpa using hz,g1.objs.size,nw,_,by simp[hz],st1.fresh,nTe,?_,nwd,by simp⟩;rw[D9 _ _ (F4 nTe)];exact B7 g1 (by rw[<- hnw];rfl)
 .intro b o hb hnf;obtain⟨sl,hs⟩:=so.2.2 b o hb;exact⟨sl,kp b _ (mE he hv hb hnf) hs⟩
theorem KH(hfr:A.frames=some (env::outer))(hf:env.frame=some L)(F:Fly B (env::outer) e c dx st s.heap)(hst:st=none\/st=some .none\/st=some (rawInt L))
 (q:∀h',Fly B (env::outer) e c dx (some (rawInt L)) h'->s.heap.UpToSlots h'->Q () { s with heap:=h' }):wpAny M A (noteFrame (.ref e) env) Q E s:=by
 obtain⟨oe,vs,he,hk,hv,hz,ht⟩:=id F.tr;unfold noteFrame;simp only[hf];rcases hst with rfl|rfl|rfl
 .refine A0 (E7 he hv (show vs[1]?=some .none from ht) ?_);rw[A5 (by decide)];exact NQ hfr hf F.stays F.new F.frames he hk hv hz q
 .obtain⟨T,oT,ts,t1,t2,t3,t4,t5,t6⟩:=ht;refine A0 (E7 he hv t1 ?_);rw[A3 (show(Value.ref T != Value.none)=true from by simp)];refine A0 (E7 t4 t5 t6 ?_);rw[A5 (show ¬((Value.none==rawInt L)=true)from by simp[rawInt])];refine A0 (U9 t4 t5 (Array.getElem?_eq_some_iff.mp t6).1 ?_);have oth:∀b,b≠T->(s.heap.update T (Obj.mapFields (·.setIfInBounds 3 Value.none))).get? b=s.heap.get? b:=fun b hb=>D9 _ _ (F4 hb)
  refine NQ (s:={ s with heap:=s.heap.update T (Obj.mapFields (·.setIfInBounds 3 Value.none)) }) hfr hf (fun b o hb=>(oth b fun z=>by rw[z,t2]at hb;cases hb).trans (F.stays b o hb)) F.new
   (F.frames.of_keeps fun b o hb hnf=>⟨o,(oth b (mE t4 t5 hb hnf)).trans hb,rfl⟩) ((oth e (F4 t3)).trans he) hk hv hz fun h' F' u=>q h' F' fun b o hb hnf=>u b o ((oth b (mE t4 t5 hb hnf)).trans hb) hnf
 .obtain⟨T,oT,ts,t1,t2,t3,t4,t5,t6⟩:=ht;refine A0 (E7 he hv t1 ?_);rw[A3 (show(Value.ref T != Value.none)=true from by simp)];refine A0 (E7 t4 t5 t6 ?_);rw[A3 (show(rawInt L==rawInt L)=true from by simp)];exact A6 (q _ F (.refl _))
theorem BA{fl:Value}{fo:Option Addr}(F:Fly B l e c dx (some fl) s.heap)
 (q:∀h',Fly B l e c dx (some (fo.elim .none fun f=>rawInt f)) h'->s.heap.UpToSlots h'->Q () { s with heap:=h' }):wpAny M A (setFlight (.ref e) fo) Q E s:=by
 obtain⟨oe,vs,he,hk,hv,hz,T,oT,ts,t1,t2,t3,t4,t5,t6⟩:=id F.tr;have z3:3<ts.size:=(Array.getElem?_eq_some_iff.mp t6).1;unfold setFlight;refine A0 (E7 he hv t1 ?_);rw[A3 (show(Value.ref T != Value.none)=true from by simp)];have oth:∀b,b≠T->(s.heap.update T (Obj.mapFields (·.setIfInBounds 3 (fo.elim .none fun f=>rawInt f)))).get? b=s.heap.get? b:=fun b hb=>D9 _ _ (F4 hb)
 refine U9 t4 t5 z3 (q _ ⟨fun b o hb=>(oth b fun z=>by rw[z,t2]at hb;cases hb).trans (F.stays b o hb),F.new,F.frames.of_keeps fun b o hb hnf=>⟨o,(oth b (mE t4 t5 hb hnf)).trans hb,rfl⟩,
  oe,vs,(oth e (F4 t3)).trans he,hk,hv,hz,T,_,_,t1,t2,t3,F8 _ t4 (Obj.isFreed_of_fields (S0 t5 _)),S0 t5 _,by simp[z3]⟩
  fun b o hb hnf=>⟨o.slots,(oth b (mE t4 t5 hb hnf)).trans hb⟩)
theorem aCe(hfr:A.frames=some (env::outer))(hf:env.frame=some L)(F:Fly B (env::outer) e c dx st s.heap)(hst:st=none\/st=some .none\/st=some (rawInt L))
 (q:∀h',Fly B outer e c dx (some .none) h'->s.heap.UpToSlots h'->Q () { s with heap:=h' }):wpAny M A (leaving env (.ref e)) Q E s:=by
 unfold leaving;refine A0 (KH hfr hf F hst fun h1 F1 u1=>BA (fo:=none) F1 fun h2 F2 u2=>?_);obtain⟨a,b,⟨_,_,c'⟩,d⟩:=F2;exact q h2 ⟨a,b,c',d⟩ (u1.trans u2)
theorem aCz{X:Value->Shared->Prop}(hfr:A.frames=some (env::outer))(hf:env.frame=some L)(F:Fly B (env::outer) e c dx st s.heap)(hst:st=none\/st=some .none\/st=some (rawInt L))
 (q:∀h',Fly B (env::outer) e c dx (some (rawInt L)) h'->s.heap.UpToSlots h'->X (.ref e) { s with heap:=h' }):notedBy M A env (cameBackBy M A env X) (.ref e) s:=by
 unfold notedBy;refine KH hfr hf F hst fun h1 F1 u1=>?_;unfold cameBackBy;obtain⟨oe,vs,he,hk,hv,hz,T,oT,ts,t1,t2,t3,t4,t5,t6⟩:=id F1.tr;refine A0 (E7 he hv t1 ?_);rw[A5 (show ¬((Value.ref T==Value.none)=true)from by simp),hf];exact BA (s:={ s with heap:=h1 }) (fo:=some L) F1 fun h2 F2 u2=>q h2 F2 (u1.trans u2)
end
structure Body(X:Cx):Prop where
 stk:X.stack=X.env::X.outer
 fr:X.env.frame=some X.env.locals
 ex:X.ex=[]
structure Kp(X:Cx)(H:Hp)(B h:Heap):Prop where
 trk:∀b u o,H b=some u->h.get? b=some o->B.get? b=some o
 ent:∀b o,X.s₀.heap.get? b=some o->b∉X.fs->(∃o',B.get? b=some o')/\(X.H₀ b=none->B.get? b=some o)
 pin:∀p∈X.pn,B.get? p.1=some p.2
section
variable{X:Cx}{pins:List (Addr×Obj)}{σ:St}{H:Hp}{s:Shared}{B h':Heap}
theorem Inv.up(I:Inv X [] σ H s)(b:Body X)(k:Kp X H B s.heap)(stays:B.StaysIn h')(u:s.heap.UpToSlots h'):Inv X [] σ H { s with heap:=h' }/\Kp X H B h':=by
 have tr:∀a v o,H a=some v->s.heap.get? a=some o->h'.get? a=some o:=fun a v o e q=>stays a o (k.trk a v o e q)
 have cell:∀c v,s.heap.IsCell c v->h'.IsCell c v:=fun c v ⟨o,ho,hd⟩=>by
  obtain⟨sl,q⟩:=u c o ho fun vs z=>by rw[hd]at z;cases z
  exact⟨_,q,hd⟩
 have frm:∀a∈X.fs,∀o,s.heap.get? a=some o->∃sl,h'.get? a=some { o with slots:=sl }:=fun a ha o e=>by
  obtain⟨_,o1,h1,hn⟩:=I.funs.mem ha;rw[e]at h1;cases h1;exact u a o e hn
 refine⟨⟨I.ok,I.os,I.bare,⟨fun a o e n ha hx=>?_,fun a o e n ha hx=>?_,I.base.free,fun a o e hx=>?_,I.base.tups,I.base.frzs,I.base.tbls⟩,?_,fun x c e=>?_,I.free,I.freeC,fun p hp=>?_,fun a v e=>?_,I.len⟩,⟨fun a v o e q=>?_,k.ent,k.pin⟩⟩
 .exact stays a o ((k.ent a o e ha).2 n)
 .obtain⟨sl,e1⟩:=I.base.slot a o e n ha hx;obtain⟨sl',e2⟩:=frm a ha _ e1;exact⟨sl',e2⟩
 .by_cases ha:a∈X.fs
  .obtain⟨o1,e1⟩:=I.base.there a o e hx;obtain⟨sl,e2⟩:=frm a ha o1 e1;exact⟨_,e2⟩
  .obtain⟨⟨o',q⟩,_⟩:=k.ent a o e ha;exact⟨o',stays a o' q⟩
 .obtain⟨m,hn,hl⟩:=I.loc;refine⟨m,u.ns hn,fun i x v e1 e2 e3=>?_⟩;obtain⟨uu,r,l⟩:=hl i x v e1 e2 e3;refine⟨uu,r,?_⟩;rcases l with l|⟨kk,c,e,z⟩
  .exact .inl l
  .exact .inr ⟨kk,c,e,cell c _ z⟩
 .obtain⟨v,z⟩:=I.cell x c e;exact⟨v,cell c v z⟩
 .rw[C5]at hp;obtain⟨_,n,ne,nf,d⟩:=I.pin p (F0 _ hp);exact⟨stays _ _ (k.pin p hp),n,ne,nf,d⟩
 .exact(I.hok a v e).stay (fun c w hc q=>by
   rcases hc with rfl|hc
   .exact tr c v w e q
   .exact tr c _ w hc q) (fun _ q=>q) fun _ _ q=>q
 .obtain⟨o1,q1⟩:=(I.hok a v e).there;have:=tr a v o1 e q1;rw[q]at this;cases this;exact k.trk a v o e q1
noncomputable def XS(X:Cx)(EE:St->XK)(ev:Value)(s:Shared):Prop:=
 ∃e c dx st σ H B,ev=.ref e/\Inv X [] σ H s/\Kp X H B s.heap/\Fly B X.stack e c dx st s.heap/\(st=none\/st=some .none\/st=some (rawInt X.env.locals))/\EE σ c dx H
theorem XS.unwish{EE:St->XK}{E:Value->Shared->Prop}{ev:Value}(h:XS (X.wish E) EE ev s):XS X EE ev s:=by
 obtain⟨e,c,dx,st,σ,H,B,h1,I,k,F,hst,q⟩:=h;exact⟨e,c,dx,st,σ,H,B,h1,I.unwish,⟨k.trk,k.ent,k.pin⟩,F,hst,q⟩
noncomputable def CX1(P:Program)(w:World):CXT:=fun outer H s E ev s'=>∃e c dx H' B,ev=.ref e/\s'.os=s.os/\AllBare s'.gens/\Un (frs outer) [] H H' s.heap s'.heap/\HOk P w H' s'.heap/\Fly B outer e c dx (some .none) s'.heap /\
 (∀b u o,H' b=some u->s'.heap.get? b=some o->B.get? b=some o)/\(∀b o,s.heap.get? b=some o->b∉frs outer->(∃o',B.get? b=some o')/\(H b=none->B.get? b=some o))/\E c dx H'
theorem Inv.entry(I:Inv X pins σ H s)(bd:Body X){b:Addr}{o:Obj}(e:X.s₀.heap.get? b=some o)(hb:b∉X.fs):b∉frs X.stack/\(∃o1,s.heap.get? b=some o1)/\(X.H₀ b=none->s.heap.get? b=some o/\H b=none):=by
 have nx:b∉X.ex:=by rw[bd.ex];simp
 refine⟨fun z=>?_,I.base.there b o e nx,fun n=>⟨I.base.keep b o e n hb nx,I.base.free b o e n nx⟩⟩;rcases List.mem_cons.mp (I.stkSub b z)with q|q
 .exact absurd (q▸B8 (B0 e) I.ok.above) (F6 _)
 .exact hb q
theorem aBY{EE:St->XK}{ev:Value}{s':Shared}(bd:Body X)(I:Inv X pins σ H s)(h:CX1 X.prog X.w X.stack H s (EE σ) ev s'):XS X EE ev s':=by
 obtain⟨e,c,dx,H',B,rfl,os,bare,un,hok,F,trk,ent,q⟩:=h;have I':Inv X pins σ H' s':=I.call' os un hok bare fun b z=>absurd z (by simp);refine⟨e,c,dx,some .none,σ,H',B,rfl,I'.pins_of fun p hp=>absurd hp (by simp),⟨trk,fun b o e hb=>?_,fun p hp=>?_⟩,F,.inr (.inl rfl),q⟩
 .obtain⟨h1,⟨o1,h2⟩,h3⟩:=I.entry bd e hb;exact⟨(ent b o1 h2 h1).1,fun n=>(ent b o (h3 n).1 h1).2 (h3 n).2⟩
 .obtain⟨h1,n,ne,nf,_⟩:=I.pin p (F0 _ hp);exact(ent p.1 p.2 h1 fun z=>(List.mem_cons.mp (I.stkSub p.1 z)).elim ne nf).2 n
theorem XW{EE:St->XK}{e:Addr}{oe:Obj}{vs:Array Value}(bd:Body X)(I:Inv X pins σ H s)(he:s.heap.get? e=some oe)(hn:H e=none)(h0:X.s₀.heap.get? e=none)(hp:∀p∈X.pn,p.1≠e)(hv:oe.data=.fields vs)(hz:1<vs.size)(h1:vs[1]?=some .none)
 (q:EE σ oe.cls oe.dict H):XS X EE (.ref e) s:=by
 have nf:e∉frs X.stack:=fun hm=>by
  obtain⟨_,o,ho,hnf⟩:=I.stack.mem hm;exact mE he hv ho hnf rfl
 have get:∀b o,b≠e->b∉frs X.stack->s.heap.get? b=some o->(PySem.W.hideAll s.heap (e::frs X.stack)).get? b=some o:=fun b o h1 h2 h3=>PySem.W.hideAll_get _ h3 fun hm=>(List.mem_cons.mp hm).elim h1 h2;refine⟨e,oe.cls,oe.dict,none,σ,H,PySem.W.hideAll s.heap (e::frs X.stack),rfl,I.pins_of fun p hp=>absurd hp (by simp),⟨fun b u o h1 h2=>?_,fun b o h1 h2=>?_,fun p h1=>?_⟩,⟨fun b o h1=>PySem.W.of_hideAll _ h1,PySem.W.hideAll_none _ B3,?_,oe,vs,he,⟨rfl,rfl⟩,hv,hz,h1⟩,.inl rfl,q⟩
 .exact get b o (aQ h1 hn) (fun z=>by rw[I.stkFree b z]at h1;cases h1) h2
 .obtain⟨k1,⟨o1,k2⟩,k3⟩:=I.entry bd h1 h2;have ne:b≠e:=fun z=>by rw[z,h0]at h1;cases h1
  exact⟨⟨o1,get b o1 ne k1 k2⟩,fun n=>get b o ne k1 (k3 n).1⟩
 .obtain⟨q1,n,ne,nf,_⟩:=I.pin p (F0 _ h1);exact get p.1 p.2 (hp p h1) (fun z=>(List.mem_cons.mp (I.stkSub p.1 z)).elim ne nf) q1
 .exact PySem.W.funFrames_hide I.stack fun env hm a ha=>B1 _ (List.mem_filterMap.mpr ⟨env,hm,ha⟩)
theorem aBM{EE:St->XK}(bd:Body X):PassesOwn (model X.prog X.w) X.A X.env (XS X EE):=by
 rintro ev s ⟨e,c,dx,st,σ,H,B,rfl,I,k,F,hst,q⟩;have hf:=I.ok.frames;rw[bd.stk]at hf F;refine aCz hf bd.fr F hst fun h' F' u=>?_;obtain⟨I',k'⟩:=I.up bd k F'.stays u;exact⟨e,c,dx,_,σ,H,B,rfl,I',k',by rw[bd.stk];exact F',.inr (.inr rfl),q⟩
end
section
variable{P:Program}{w:World}{K:Fg}{mg:Str->Option Value}{base:Heap}{N:List Str}{qual:Str}{scope:Scope}{f:Addr}{cd:Value}{A:Around}{outer:List Env}{s:Shared}{H:Hp}{E:XK}{CX:CXT}
theorem UQ:Body (nR CX P w K mg base N qual scope f cd A outer s H E):=⟨rfl,rfl,rfl⟩
theorem Body.wish{X:Cx}(b:Body X)(E:Value->Shared->Prop):Body (X.wish E):=⟨b.stk,b.fr,b.ex⟩
theorem YT{ev:Value}{s':Shared}(h:XS (nR (CX1 P w) P w K mg base N qual scope f cd A outer s H E) (fun _=>E) ev s'):(nR (CX1 P w) P w K mg base N qual scope f cd A outer s H E).xe ev s':=by
 obtain⟨e,c,dx,st,σ,H',B,rfl,I,k,F,hst,q⟩:=h;refine aCe (c:=c) (dx:=dx) (st:=st) (B:=B) (outer:=outer) (L:=s.heap.objs.size) I.ok.frames rfl F hst fun h' F' u=>?_;obtain⟨I',k'⟩:=I.up UQ k F'.stays u;exact⟨e,c,dx,H',B,rfl,I'.os,I'.bare,I'.base,I'.hok,F',k'.trk,k'.ent,q⟩
theorem aGv{k:Nat}{name:Str}{params:Arguments}{body:List Stmt}{dV kV doc pm cdv ct oc:Value}{an od:Option Addr}
 {osl:Array (Option Value)} {ps:List Str} {sp:Sp} (lk:K.lookup f=some ⟨oc,od,.func (PySem.W.fnOf name qual params body scope dV kV doc pm an cdv ct),osl⟩) (hcd:PySem.W.codeIn K cdv qual=true) (S:aT N ps scope)
 (len:∀vs H Q E,sp vs H Q E->vs.length=ps.length)
 (hbody:∀(A:Around)(outer:List Env)(s:Shared)(H:Hp)(vs:List V)(Q:VK)(E:XK),cB k (A.deeper (envOfC qual scope s.heap.objs.size f cdv))->sp vs H Q E->
  ∃t,PSs ((nR (CX1 P w) P w K mg base N qual scope f cdv A outer s H E).wish (XS (nR (CX1 P w) P w K mg base N qual scope f cdv A outer s H E) fun _=>E)) body t/\t { nx:=fun _ H'=>Q .non H',rt:=Q } (start N vs) H):
 jF P w K mg base (CX1 P w) (k+1) f (PySem.W.fnOf name qual params body scope dV kV doc pm an cdv ct) ps sp:=
 aEX lk hcd S len fun A outer s H vs Q E hr h=>by
  obtain⟨t,ht,hq⟩:=hbody A outer s H vs Q E hr h;exact⟨t,fun pins s' σ H' D I hw=>D8 (ht pins s' σ H' D (I.wish _) hw) (fun _ _ q=>q.unwish) fun _ _ z=>YT z,hq⟩
end
structure wJ(K:Fg)(C:Addr):Prop where
 ga:PySem.W.findIn K (.ref C) "__getattribute__"=some (some (.builtin "BaseException.__getattribute__"))
 gh:PySem.W.findIn K (.ref C) "__getattr__"=some none
 be:PySem.W.subIn K (.ref C) (.type "BaseException")=some true
 cl:(PySem.W.clsIn K C).isSome=true
section
variable{prog:Program}{w:World}{A:Around}{E:Value->Shared->Prop}{s:Shared}{K:Fg}{x C:Addr}{ox:Obj}{od:Option Obj}{name:Str}
theorem IK{tk:Tok}{Q:Value->Shared->Prop}(X:K.In s.heap)(I:PySem.W.InstAt s.heap x ox C od)(c:wJ K C)
 (h:wpAny (model prog w) A.in1 (Builtin.«object.__getattribute__» ⟨[.ref x,.str name tk],[]⟩)
  (fun fin s'=>match fin with|.done (.ret v)=>Q v s'|.done _=>False|.again c'=>c'.quiet=true/\codeAny (model prog w) A c' (fun r s'=>match r with|.ok (.ret v)=>Q v s'|.ok _=>False|.error e=>E e s') s') E s):
 wpAny (model prog w) A (call (.builtin "BaseException.__getattribute__") [.ref x,.str name tk]) Q E s:=by
 have hb:=F.entry_bexc_ga;generalize Builtin.«object.__getattribute__»=b at hb h;refine Z5 (codeAny_call_builtin F.excAttr_ValueError.ga.plain hb ?_);have hk:builtinKind "BaseException.__getattribute__"=some .slot:=by decide +kernel
 have hsplit:splitId "BaseException.__getattribute__"=some ("BaseException","__getattribute__"):=by decide +kernel
 have ha:=F.args_bexc_ga (.ref x) (.str name tk);have L0:=I.type (M:=model prog w);have L1:=PySem.W.looks_subIn (M:=model prog w) X c.be;obtain⟨hh,g,d,t,os⟩:=s;simp only[checkBuiltinCall,hk,hsplit];refine A0 ?_;unfold isInstance;refine A0 (L0.at (L1.at ?_))
 repeat (first|assumption|wp_step)
 refine D8 h (fun fin s' z=>?_) fun _ _ z=>z;rcases fin with(_|_|_|_)|c'
 .exact z
 .exact z
 .exact z
 .exact z
 .exact⟨z.1,U2 z.2 fun r s' q=>by cases r with
   |error e=>exact q
   |ok f=>cases f<;>exact q⟩
theorem GX{tk:Tok}{fill ex:Bool}{Q:Value->Shared->Prop}(X:K.In s.heap)(I:PySem.W.InstAt s.heap x ox C od)(c:wJ K C)
 (h:wpAny (model prog w) A.in1 (Builtin.«object.__getattribute__» ⟨[.ref x,.str name tk],[]⟩)
  (fun fin s'=>match fin with|.done (.ret v)=>wpAny (model prog w) A (handedOut v) Q E s'|.done _=>False|.again c'=>c'.quiet=true/\codeAny (model prog w) A c' (fun r s'=>match r with|.ok (.ret v)=>wpAny (model prog w) A (handedOut v) Q E s'|_=>False) s') (fun _ _=>False) s):
 wpAny (model prog w) A (getAttrBy (.ref x) (.str name tk) fill ex) Q E s:=by
 have L0:=I.type (M:=model prog w);have L1:=S3 (M:=model prog w) X c.ga;have L2:=S3 (M:=model prog w) X c.gh;unfold getAttrBy;refine E2 (A0 (L0.here (A0 (L1.here ?_))));have hx2:(Value.builtin "BaseException.__getattribute__"==Value.builtin "object.__getattribute__")=false:=by decide +kernel
 have hx1:(onTheHeap (Value.ref C)&&Value.builtin "BaseException.__getattribute__"==Value.builtin "object.__getattribute__")=false:=by rw[hx2];rfl
 dsimp only;rw[hx1,A5 A4];unfold getAttrByItsOwn hookBefore;rw[A3 (show onTheHeap (Value.ref C)=true from rfl)];refine A0 (L2.here (A0 (wpAny_attempt (E2 ?_))));unfold callGetattribute;rw[A5 (show ¬((ex&&onTheHeap (Value.builtin "BaseException.__getattribute__"))=true)from by cases ex<;>exact A4)];unfold boundAndCalled;rw[F.excAttr_ValueError.ga.bind (.ref x)];refine A0 (A6 ?_);refine D8 (IK (tk:=tk) (name:=name) (E:=fun _ _=>False) (Q:=fun v s'=>wpAny (model prog w) A (handedOut v) Q E s') X I c ?_) (fun v s' z=>z) fun _ _ z=>z.elim;refine D8 h (fun fin s' z=>?_) fun _ _ z=>z;rcases fin with(_|_|_|_)|c'
 .exact z
 .exact z
 .exact z
 .exact z
 .exact⟨z.1,U2 z.2 fun r s' q=>by cases r with
   |error e=>exact q
   |ok f=>cases f<;>exact q⟩
theorem aDJ{ex:Bool}{v:Value}{Q:Value->Shared->Prop}(X:K.In s.heap)(I:PySem.W.InstAt s.heap x ox C od)(c:wJ K C)(hf:PySem.W.findObj K C od name=some (.value v))(hh:PySem.W.handedIn v=true)(h:Q v { s with toks:=s.toks+1 }):
 wpAny (model prog w) A (getAttr (.ref x) name ex) Q E s:=by
 unfold getAttr;refine A0 (wpAny_mkText (GX (s:={ s with toks:=s.toks+1 }) X I c ?_));obtain⟨h0,g,d,t,os⟩:=s;have L0:=I.type (M:=model prog w);have L1:=PySem.W.looks_find (M:=model prog w) X I hf;refine A0 (A6 (A0 (A6 (A0 (L0.at (A0 (L1.at ?_)))))));refine A6 ?_;show wpAny _ _ (handedOut v) _ _ _;rw[PySem.W.handedOut_of hh];exact A6 h
theorem WZ{Q:Option Value->Shared->Prop}(X:K.In s.heap)(I:PySem.W.InstAt s.heap x ox C od)(c:wJ K C)(ha:PySem.W.findIn K (.ref C) "__class__"=some (some (.builtin "object.__class__")))
 (hn:PySem.W.specialIn K (.builtin "object.__class__") "__get__"=some (some (.builtin "getset_descriptor.__get__"))) (htk:PySem.W.takesIn K (.builtin "object.__class__")=some true) (hm:PySem.W.mroIn K C (.type "object")=some true)
 (h:Q (some (.ref C)) { s with toks:=s.toks+1 }):wpAny (model prog w) A (getAttr? (.ref x) "__class__") Q E s:=by
 have hf:PySem.W.findObj K C od "__class__"=some (.bind (.builtin "getset_descriptor.__get__") (.builtin "object.__class__")):=by
  obtain⟨cd,hc⟩:=Option.isSome_iff_exists.mp c.cl;unfold PySem.W.findObj;rw[hc,A1,ha,A1];simp[hn,htk]
 unfold getAttr? getAttrBy?;refine A0 (wpAny_mkText (A0 (wpAny_attempt (GX (s:={ s with toks:=s.toks+1 }) X I c ?_))));obtain⟨h0,g,d,t,os⟩:=s;have L0:=I.type (M:=model prog w);have L1:=PySem.W.looks_find (M:=model prog w) X I hf;refine A0 (A6 (A0 (A6 (A0 (L0.at (A0 (L1.at ?_)))))));show wpAny _ _ (Builtin.ObjectAttr.bindTo (.builtin "getset_descriptor.__get__") (.builtin "object.__class__") (.ref x) (.ref C)) _ _ _;unfold Builtin.ObjectAttr.bindTo;refine A0 (E2 (Z5 (PySem.W.class_get (ox:=ox) (od:=od) X I hm ?_)));refine A6 ?_;show wpAny _ _ (handedOut (.ref C)) _ _ _;exact A6 (A6 h)
theorem aCs(c:wJ K C)(ha:PySem.W.findIn K (.ref C) "__class__"=some (some (.builtin "object.__class__")))
 (hn:PySem.W.specialIn K (.builtin "object.__class__") "__get__"=some (some (.builtin "getset_descriptor.__get__"))) (htk:PySem.W.takesIn K (.builtin "object.__class__")=some true) (hm:PySem.W.mroIn K C (.type "object")=some true):
 PySem.W.KitX K (.ref x) (.ref C) (fun h=>∃ox od,PySem.W.InstAt h x ox C od) where
 ty:=fun _ _ _ ⟨_,_,I⟩=>I.type
 it:=fun _ _ X _=>by
  have hc:=c.cl;unfold PySem.W.clsIn at hc;split at hc
  .rename_i c' d' cd' sl' ho;intro A' Q' E' s' k q;unfold isType loadHead;exact A0 (wpAny_loadPart (k _ _ (X _ _ ho)) (A6 q))
  .cases hc
 ne:=fun h tp dd its n sl X htp=>by
  have hc:=c.cl;refine Bool.eq_false_iff.mpr fun q=>?_;have e:C=tp:=Value.ref.inj (beq_iff_eq.mp q);subst e;unfold PySem.W.clsIn at hc;split at hc
  .rename_i c' d' cd' sl' ho;have z:=(X _ _ ho).symm.trans htp;cases z
  .cases hc
 ca:=fun X ⟨_,_,I⟩ k=>WZ X I c ha hn htk hm k
end
section
variable{X:Cx}{pins:List (Addr×Obj)}{σ:St}{H:Hp}{s:Shared}
noncomputable def JO(sp:Sp)(EE:St->XK)(t:TA):TE:=fun σ H Q=>t σ H fun vs H1=>sp vs H1 Q (EE σ)
structure nD(P:Program)(w:World)(K:Fg)(mg:Str->Option Value)(base:Heap)(k:Nat)(x:Str)(ps:List Str)(sp:Sp):Prop where
 ex:∃f fd,jF P w K mg base (CX1 P w) k f fd ps sp/\mg x=some (.ref f)/\PySem.W.keepIn K (.ref f)=true/\Binds K fd ps []
structure XOk(X:Cx)(EE:St->XK):Prop where
 bd:Body X
 pass:∀ev s,XS X EE ev s->X.xe ev s
 own:PassesOwn (model X.prog X.w) X.A X.env X.xe
theorem XOk.of{X:Cx}(bd:Body X)(EE:St->XK):XOk (X.wish (XS X EE)) EE:=⟨bd.wish _,fun _ _ h=>h.unwish,aBM bd⟩
theorem aDr{EE:St->XK}{k:Nat}{f:Addr}{fd:FuncData}{ps:List Str}{sp:Sp}{Q:VK}{us:List Value}{vs:List V}(ok:XOk X EE)(F:jF X.prog X.w X.K X.mg X.base (CX1 X.prog X.w) k f fd ps sp)(hr:cB k X.A)(hb:Binds X.K fd ps [])
 (I:Inv X pins σ H s) (r:bK vs us) (h:sp vs H Q (EE σ)):wpAny (model X.prog X.w) X.A (call (.ref f) us) (EP X pins σ Q) X.xe s:=by
 have hl:us.length=ps.length:=by rw[<- r.length];exact F.len _ _ _ _ h
 have b:=hb s us I.kIn (by rw[C5];exact hl);rw[C5]at b;refine Z5 (U2 (F.run X.A X.stack s H ⟨us,[]⟩ us vs Q (EE σ) hr I.env0 b r h) fun r s' hq=>?_);cases r with
 |error e=>exact ok.pass _ _ (aBY ok.bd I hq)
 |ok fl=>
  cases fl with
  |ret u=>exact I.after hq
  |next=>exact False.elim hq
  |brk=>exact False.elim hq
  |cont=>exact False.elim hq
theorem aCE{EE:St->XK}{k:Nat}{x:Str}{ps:List Str}{sp:Sp}{p pos:Pos}{e:Expr}{es:List Expr}{t:TA}(ok:XOk X EE)(C:nD X.prog X.w X.K X.mg X.base k x ps sp)(hr:cB k X.A)(ha:PA X (e::es) t)(hg:Gl X x)
 (hdb:(x==("__debug__":Str))=false) (he:starEach (e::es) X.env=(false,eval e X.env)::starEach es X.env) (hpl:(backTo pos (starEach es X.env)).any (·.1)=false):
 PE X (.Call (.Name x p) (e::es) [] pos) (JO sp EE t):=by
 sleep 10;obtain⟨f,fd,F,m,kp,b⟩:=C.ex;refine J2 (mM I hg m ?_ hdb);exact U3 (h₀:=X.base) I.ok.mod.kin kp (thn (ha pos pins s σ H _ I h) fun us s1 ⟨vs,H1,I1,r,q⟩=>⟨I1.kIn,aDr ok F hr b I1 r q⟩) he hpl
noncomputable abbrev bmV:List Value:=[.type "ValueError",.type "Exception",.type "BaseException",.type "object"]
theorem aCT{h:Heap}{C:Addr}{bmB:List Value}{nid:String}(X:K.In h)(q:PySem.W.excIn K C bmB nid=true):
 ∃bm N nm qn bs hd sn sub ab col dd k0 k1 k2 k3 k5 mN,h.get? C=some (excClassObj nm qn C N bs bm hd sn sub ab col dd k0 k1 k2 k3 k5 nid)/\h.Ns N mN/\mN "__init__"=none/\OwnTail h bmB bm:=by
 unfold PySem.W.excIn at q;split at q
 case h_2=>cases q
 case h_1 dd cd sl lk=>
  split at q
  case h_2=>cases q
  case h_1 C' bm k0 k1 k2 k3 n k5 hm hs=>
   simp only[Bool.and_eq_true,beq_iff_eq,Bool.not_eq_true']at q;obtain⟨⟨⟨⟨⟨q1,q2⟩,q3⟩,q4⟩,q5⟩,q6⟩:=q;subst q1 q2;cases cd with
   |mk nm bs mro ns qn hd sn sub ab col del=>
    cases hm;cases q3
    have es:sl=#[k0,k1,k2,k3,some (.builtin n),k5]:=by
     cases sl with
     |mk l=>exact O2 Array.mk hs
    cases es;exact⟨bm,ns,nm,qn,bs,hd,sn,sub,ab,col,dd,k0,k1,k2,k3,k5,_,X _ _ lk,.of_isNs (PySem.W.isNs_of_in X q5),PySem.W.nsMap_none_of_in X q5 q6,PySem.W.tail_of_in X q4⟩
noncomputable def JE(EE:St->XK)(C:Addr):TS:=fun _ σ H=>EE σ (.ref C) none H
theorem UX{EE:St->XK}{C:Addr}{x:Str}{np cpos pos:Pos}(ok:XOk X EE)(hc:X.calm=true)(hm:X.mg x=some (.ref C))(q:PySem.W.excIn X.K C bmV "ValueError.__new__"=true)(hg:Gl X x)
 (hdb:(x==("__debug__":Str))=false):PS X (.Raise (some (.Call (.Name x np) [] [] cpos)) none pos) (JE EE C):=by
 sleep 19;obtain⟨bm,N,nm,qn,bs,hd,sn,sub,ab,col,dd,k0,k1,k2,k3,k5,mN,oC,oN,oi,ot⟩:=aCT I.kIn q
 refine wpAny_Raise_call_subT (C:=C) (nm:=nm) (q:=qn) (N:=N) (bs:=bs) (bm:=bm) (hdct:=hd) (sn:=sn) (sub:=sub) (ab:=ab) (col:=col) (dd:=dd) (k0:=k0) (k1:=k1) (k2:=k2) (k3:=k3) (k5:=k5) (mN:=mN)
  F.excBase_ValueError (ot.hasType F.excBase_ValueError.hasBase) (I.ok.hd hc) rfl oi (mM I hg hm ⟨rfl,evalArgs_empty ⟨rfl,D6 _,oC,oN,ot,fun h' e mk=>ok.pass _ _ ?_⟩⟩ hdb)
 obtain⟨t,he,_,_⟩:=mk.there;have I':Inv X pins σ H { s with heap:=h' }:=I.kept mk.keeps
 have hn:H e=none:=by
  cases z:H e with
  |none=>rfl
  |some u=>
   obtain⟨o,z'⟩:=(I.hok e u z).there;rw[mk.new]at z';cases z'
 refine XW ok.bd I' he hn ?_ (fun p hp z=>?_) rfl (show 1<6 by decide) rfl h
 .cases z:X.s₀.heap.get? e with
  |none=>rfl
  |some o=>
   obtain⟨o1,z1⟩:=I.base.there e o z (by rw[ok.bd.ex];simp);rw[mk.new]at z1;cases z1
 .have:=(I.pin p (F0 _ hp)).1;rw[z,mk.new]at this;cases this
end
noncomputable def hCx(X:Cx)(e:Addr):Cx:={ X with A:=X.A.mark (some (.ref e)),calm:=false,xe:=fun _ _=>False }
noncomputable def AH(X:Cx)(pins:List (Addr×Obj)):Cx:={ X with pn:=X.pn++pins }
section
variable{X:Cx}{pins:List (Addr×Obj)}{σ:St}{H:Hp}{s:Shared}
theorem Inv.toH(I:Inv X pins σ H s)(e:Addr):Inv (hCx X e) pins σ H s:=
 ⟨⟨I.ok.mod,I.ok.kind,I.ok.glob,I.ok.blt,I.ok.above,I.ok.inj,I.ok.has,I.ok.cab,fun z=>(by cases z),I.ok.frames,I.ok.stk,I.ok.exf,I.ok.bs,I.ok.bsz,I.ok.noex,I.ok.exfs,I.ok.funs,I.ok.frf⟩,I.os,I.bare,I.base,I.loc,I.cell,I.free,I.freeC,I.pin,I.hok,I.len⟩
theorem Inv.ofH{e:Addr}(I:Inv (hCx X e) pins σ H s)(ok:X.Ok):Inv X pins σ H s:=⟨ok,I.os,I.bare,I.base,I.loc,I.cell,I.free,I.freeC,I.pin,I.hok,I.len⟩
theorem Inv.toP(I:Inv X pins σ H s):Inv (AH X pins) [] σ H s:=
 ⟨⟨I.ok.mod,I.ok.kind,I.ok.glob,I.ok.blt,I.ok.above,I.ok.inj,I.ok.has,I.ok.cab,I.ok.hd,I.ok.frames,I.ok.stk,I.ok.exf,I.ok.bs,I.ok.bsz,I.ok.noex,I.ok.exfs,I.ok.funs,I.ok.frf⟩,I.os,I.bare,I.base,I.loc,I.cell,I.free,I.freeC,fun p hp=>I.pin p (by rw[C5]at hp;exact hp),I.hok,I.len⟩
theorem Inv.ofP(I:Inv (AH X pins) [] σ H s)(ok:X.Ok):Inv X pins σ H s:=⟨ok,I.os,I.bare,I.base,I.loc,I.cell,I.free,I.freeC,fun p hp=>I.pin p (by rw[C5];exact hp),I.hok,I.len⟩
theorem Inv.track{e:Addr}{oe:Obj}{vs:Array Value}(I:Inv X pins σ H s)(he:s.heap.get? e=some oe)(hv:oe.data=.fields vs)(hn:H e=none)(h0:X.s₀.heap.get? e=none)(hp:∀p∈X.pn++pins,p.1≠e):
 Inv X pins σ (upd H e (.ext (oQ e oe.cls oe.dict false))) s:=by
 have ne:∀b u,H b=some u->b≠e:=fun b u z=>aQ z hn;refine⟨I.ok,I.os,I.bare,⟨I.base.keep,I.base.slot,fun b o q n hx=>?_,I.base.there,fun b xs q=>?_,fun b o u q=>?_,fun b ps q=>?_⟩,I.loc,I.cell,?_,fun x c q=>?_,fun p h=>?_,fun b u q=>?_,I.len⟩
 .rw[aL (fun z=>by rw[z,h0]at q;cases q)];exact I.base.free b o q n hx
 .have:=I.base.tups b xs q;rw[aL (ne _ _ this)];exact this
 .have:=I.base.frzs b o u q;rw[aL (ne _ _ this)];exact this
 .obtain⟨more,this⟩:=I.base.tbls b ps q;exact⟨more,by rw[aL (ne _ _ this)];exact this⟩
 .obtain⟨m,⟨o,es,ep,ho,hd,_⟩,_⟩:=I.loc;rw[aL (mE he hv ho fun ws z=>by rw[hd]at z;cases z)];exact I.free
 .obtain⟨v,o,ho,hd⟩:=I.cell x c q;rw[aL (mE he hv ho fun ws z=>by rw[hd]at z;cases z)];exact I.freeC x c q
 .obtain⟨q1,q2,q3⟩:=I.pin p h;exact⟨q1,by rw[aL (hp p h)];exact q2,q3⟩
 .by_cases hb:b=e
  .subst hb;rw[aR]at q;cases q;exact⟨⟨oe,vs,he,rfl,rfl,hv,fun z=>by cases z⟩,⟨oe,he⟩,fun h1 h2 ⟨o,ws,z1,z2⟩ k=>⟨o,ws,k o z1,z2⟩⟩
  .rw[aL hb]at q;exact(I.hok b u q).stay (fun _ _ _ z=>z) (fun c z=>by rw[aL (ne _ _ z)];exact z) fun c xs z=>by rw[aL (ne _ _ z)];exact z
theorem tX{M:Model}{A:Around}{E:Value->Shared->Prop}{i:Nat}{x:Str}{pos:Pos}{Q:Unit->Shared->Prop}(I:Inv X pins σ H s)(hN:X.N.Nodup)(hi:X.N[i]?=some x)(hk:X.env.scope.names.lookup x=some .local)
 (h:∀s',Inv X pins (σ.set i none) H s'->Q () s'):wpAny M A (do bindName X.env x .none;unbindBehindTheSuite X.env x pos) Q E s:=by
 obtain⟨m,hn,hl⟩:=id I.loc;have hcls:(X.env.scope.kind==.class || (X.env.scope.kind==.module&&X.env.locals != X.env.globals))=false:=by rw[I.ok.kind];rfl
 have hiσ:i<σ.length:=by rw[I.len];exact(List.getElem?_eq_some_iff.mp hi).1
 obtain⟨oL,_,_,hoL,_⟩:=id hn;refine wpAny_nameGoes_keeps hk hn hcls fun h' v hn' hs=>h _ ?_;have ltL:∀b o,X.s₀.heap.get? b=some o->b≠X.env.locals:=fun b o q=>B6 (B8 (B0 q) I.ok.above);refine⟨I.ok,I.os,I.bare,⟨fun b o q n hb hx=>(hs.2 b (ltL b o q)).trans (I.base.keep b o q n hb hx),fun b o q n hb hx=>?_,I.base.free,fun b o q hx=>?_,I.base.tups,I.base.frzs,I.base.tbls⟩,⟨_,hn',fun j y v' e1 e2 e3=>?_⟩,fun y c q=>?_,I.free,I.freeC,fun p hp=>?_,fun b u q=>?_,by simpa using I.len⟩
 .obtain⟨sl,e1⟩:=I.base.slot b o q n hb hx;exact⟨sl,(hs.2 b (ltL b o q)).trans e1⟩
 .obtain⟨o',e1⟩:=I.base.there b o q hx;exact⟨o',(hs.2 b (ltL b o q)).trans e1⟩
 .have hj:j≠i:=fun z=>by
   subst z;rw[E3 hiσ]at e2;cases e2
  rw[D4 (F4 hj)]at e2;obtain⟨u',r',z⟩:=hl j y v' e1 e2 e3;refine⟨u',r',?_⟩;rcases z with⟨k,e⟩|⟨k,c,e,z⟩
  .have:y≠x:=fun e=>hj (CA hN e1 (e▸hi));exact .inl ⟨k,by simp[this,e]⟩
  .exact .inr ⟨k,c,e,z.sameBut hs (I.cne y c e)⟩
 .obtain⟨w',z⟩:=I.cell y c q;exact⟨w',z.sameBut hs (I.cne y c q)⟩
 .obtain⟨e,n,ne,nf,d⟩:=I.pin p hp;exact⟨(hs.2 p.1 ne).trans e,n,ne,nf,d⟩
 .refine(I.hok b u q).stay (fun c w' hc z=>(hs.2 c ?_).trans z) (fun _ z=>z) fun _ _ z=>z;rintro rfl;rcases hc with rfl|hc
  .rw[I.free]at q;cases q
  .rw[I.free]at hc;cases hc
structure HR where
 c:Value
 n:Option Nat
 t:TS
noncomputable def unbN:Option Nat->St->St
 |none,σ=>σ
 |some i,σ=>σ.set i none
noncomputable def setN:Option Nat->St->V->St
 |none,σ,_=>σ
 |some i,σ,v=>σ.set i (some v)
noncomputable def aCr(D:Ends)(n:Option Nat):Ends:={ nx:=fun σ H=>D.nx (unbN n σ) H,rt:=D.rt,bk:=fun σ H=>D.bk (unbN n σ) H,ct:=fun σ H=>D.ct (unbN n σ) H }
noncomputable def tHs(K:Fg)(D:Ends):List HR->St->XK
 |[],_,_,_,_=>False
 |h::r,σ,c,dx,H=>∃b,PySem.W.exmOne K c h.c=some b/\(if b=true then ∀e,H e=none->h.t (aCr D h.n) (setN h.n σ (.ref e)) (upd H e (.ext (oQ e c dx false)))else tHs K D r σ c dx H)
noncomputable def aBR(X:Cx)(hs:List ExceptHandler)(rs:List HR):Prop:=∀(pins:List (Addr×Obj))(D:Ends)(e:Addr)(c:Value)(dx:Option Addr)(σ:St)(H:Hp)(s:Shared)(B:Heap)(E:Value->Shared->Prop),X.Ok->Inv (AH X pins) [] σ H s->Kp (AH X pins) H B s.heap->
 Fly B X.stack e c dx (some .none) s.heap->tHs X.K D rs σ c dx H->wpAny (model X.prog X.w) X.A (handleBy (.ref e) X.env hs) (SP X pins D) E s
theorem aHP:aBR X [] []:=fun _ _ _ _ _ _ _ _ _ _ _ _ _ _ h=>h.elim
noncomputable def aAl(X:Cx)(x:Str)(c:Value):Prop:=X.mg x=some c\/(X.mg x=none/\bootBuiltins x=some c/\x≠"__name__")
theorem aGI{x:Str}{c:Value}{pos:Pos}{E:Value->Shared->Prop}{Q:Value->Shared->Prop}(n:aAl X x c)(I:Inv X pins σ H s)(hg:Gl X x)(hd:(x==("__debug__":Str))=false)(h:Q c s):
 wpAny (model X.prog X.w) X.A (eval (.Name x pos) X.env) Q E s:=by
 rcases n with m|⟨m,b,z⟩
 .exact mM I hg m h hd
 .exact wA I hg m b h z hd
theorem Fly.fresh{B h:Heap}{e:Addr}{c:Value}{dx st:_}(bd:Body X)(I:Inv X pins σ H s)(k:Kp X H B s.heap)(F:Fly B X.stack e c dx st s.heap):H e=none/\X.s₀.heap.get? e=none/\∀p∈X.pn,p.1≠e:=by
 obtain⟨oe,vs,he,_,_,hv⟩:=F.obj;refine⟨?_,?_,fun p hp z=>?_⟩
 .cases z:H e with
  |none=>rfl
  |some u=>
   have:=k.trk e u oe z he;rw[F.new]at this;cases this
 .cases z:X.s₀.heap.get? e with
  |none=>rfl
  |some o=>
   by_cases hf:e∈X.fs
   .obtain⟨_,o1,z1,hn⟩:=I.funs.mem hf;exact absurd rfl (mE he hv z1 hn)
   .obtain⟨⟨o',q⟩,_⟩:=k.ent e o z hf;rw[F.new]at q;cases q
 .have:=k.pin p hp;rw[z,F.new]at this;cases this
noncomputable def aIS(X:Cx):Option Str->Option Nat->Prop
 |none,none=>True
 |some n,some i=>X.N.Nodup/\X.N[i]?=some n/\X.env.scope.names.lookup n=some .local
 |_,_=>False
theorem aDF{x:Str}{np pos:Pos}{nm:Option Str}{b₀:Stmt}{suite:List Stmt}{hs:List ExceptHandler}{h:HR}{rs:List HR}(bd:Body X)(hc:aAl X x h.c)(hg:Gl X x)(hd:(x==("__debug__":Str))=false)
 (hn:aIS X nm h.n)
 (hS:∀e,PSs (hCx X e) (b₀::suite) h.t) (hR:aBR X hs rs):aBR X (.ExceptHandler (some (.Name x np)) nm (b₀::suite) pos::hs) (h::rs):=by
 intro pins D e c dx σ H s B E ok I k F hq;obtain⟨b,hb,hq⟩:=hq;have bp:Body (AH X pins):=⟨bd.stk,bd.fr,bd.ex⟩;obtain⟨oe,vs,he,hoc,_,hv⟩:=F.obj;have LT:PySem.W.Looks (model X.prog X.w) s.heap (typeOf (.ref e)) c:=hoc▸(PySem.W.Looks.ld he).andThen .now;have IH:=(I.ofP ok).toH e;have hA:(hCx X e).A=X.A.mark (some (.ref e)):=rfl;refine wpAny_handleBy_cons (codeAny_handlers_test (aGI (X:=hCx X e) hc IH hg hd ?_)) (by intro z;cases z);refine(PySem.W.exm_one IH.kIn LT hb).here ?_;cases b with
 |false=>exact hR pins D e c dx σ H s B E ok I k F hq
 |true=>
  rw[A3 rfl]at hq;have F':Fly B (AH X pins).stack e c dx (some .none) s.heap:=F
  have go:∀(P:Shared->Prop),(∀s',Inv X pins σ (upd H e (.ext (oQ e c dx false))) s'->P s')->wpAny (model X.prog X.w) (X.A.mark (some (.ref e))) (setFlight (.ref e) none) (fun _ s1=>P s1) (notedBy (model X.prog X.w) (X.A.mark (some (.ref e))) X.env fun x s'=>cameBackBy (model X.prog X.w) X.A X.env E x s') s:=fun P hP=>by
   refine BA (fo:=none) F' fun h1 F1 u1=>hP _ ?_;obtain⟨I1,k1⟩:=I.up bp k F1.stays u1;obtain⟨n1,n2,n3⟩:=Fly.fresh (s:={ s with heap:=h1 }) (h:=h1) bp I1 k1 F1;obtain⟨oe1,vs1,he1,hc1,hd1,hv1⟩:=F1.obj;have I2:=Inv.track I1 he1 hv1 n1 n2 fun p hp=>n3 p (by rw[C5]at hp;exact hp);rw[hc1,hd1]at I2;exact I2.ofP ok
  have hne:H e=none:=(Fly.fresh (h:=s.heap) bp I k F').1;have q0:=hq e hne;cases nm with
  |none=>
   cases hni:h.n with
   |some i=>rw[hni]at hn;exact False.elim hn
   |none=>
    rw[hni]at q0;refine codeAny_handlers_suite (go _ fun s1 I1=>?_);refine D8 (hS e pins s1 σ _ (aCr D none) (I1.toH e) q0) (fun f s2 z=>?_) fun _ _ z=>z.elim;cases f with
    |next=>obtain⟨σ',H',I',q⟩:=z;exact⟨σ',H',I'.ofH ok,q⟩
    |brk=>obtain⟨σ',H',I',q⟩:=z;exact⟨σ',H',I'.ofH ok,q⟩
    |cont=>obtain⟨σ',H',I',q⟩:=z;exact⟨σ',H',I'.ofH ok,q⟩
    |ret u=>obtain⟨v,σ',H',I',r,q⟩:=z;exact⟨v,σ',H',I'.ofH ok,r,q⟩
  |some n=>
   cases hni:h.n with
   |none=>rw[hni]at hn;exact False.elim hn
   |some i=>
    rw[hni]at hn q0;obtain⟨nd,hi,lo⟩:=hn;refine codeAny_handlers_suite_as (go _ fun s1 I1=>?_);refine rW (X:=X) I1 nd hi (.inl lo) (v:=.ref e) rfl (fun s2 I2=>?_) (.inr lo);refine D8 (hS e pins s2 _ _ (aCr D (some i)) (I2.toH e) q0) (fun f s3 z=>?_) fun _ _ z=>z.elim;show wpAny _ _ _ (fun _ s₃=>SP X pins D f s₃) E s3;cases f with
    |next=>obtain⟨σ',H',I',q⟩:=z;exact tX (I'.ofH ok) nd hi lo fun s4 I4=>⟨_,H',I4,q⟩
    |brk=>obtain⟨σ',H',I',q⟩:=z;exact tX (I'.ofH ok) nd hi lo fun s4 I4=>⟨_,H',I4,q⟩
    |cont=>obtain⟨σ',H',I',q⟩:=z;exact tX (I'.ofH ok) nd hi lo fun s4 I4=>⟨_,H',I4,q⟩
    |ret u=>obtain⟨v,σ',H',I',r,q⟩:=z;exact tX (I'.ofH ok) nd hi lo fun s4 I4=>⟨v,_,H',I4,r,q⟩
noncomputable def aGc(K:Fg)(tb:(St->XK)->TS)(rs:List HR):TS:=fun D σ H=>tb (tHs K D rs) D σ H
theorem aHt{body:List Stmt}{h₀:ExceptHandler}{hs:List ExceptHandler}{pos:Pos}{tb:(St->XK)->TS}{rs:List HR}(bd:Body X)
 (hb:∀pins EE,PSs ((AH X pins).wish (XS (AH X pins) EE)) body (tb EE)) (hh:aBR X (h₀::hs) rs):PS X (.Try body (h₀::hs) [] [] pos) (aGc X.K tb rs):=by
 sleep 19;have bp:Body (AH X pins):=⟨bd.stk,bd.fr,bd.ex⟩;refine wpAny_Try_except (D8 (hb pins (tHs X.K D rs) [] s σ H D (I.toP.wish _) h) (fun f s1 z=>?_) fun ev s1 z=>?_)
 .cases f with
  |next=>obtain⟨σ',H',I',q⟩:=z;exact Z3 ⟨σ',H',I'.unwish.ofP I.ok,q⟩
  |brk=>obtain⟨σ',H',I',q⟩:=z;exact⟨σ',H',I'.unwish.ofP I.ok,q⟩
  |cont=>obtain⟨σ',H',I',q⟩:=z;exact⟨σ',H',I'.unwish.ofP I.ok,q⟩
  |ret u=>obtain⟨v,σ',H',I',r,q⟩:=z;exact⟨v,σ',H',I'.unwish.ofP I.ok,r,q⟩
 .obtain⟨e,c,dx,st,σ1,H1,B,rfl,I1,k1,F1,hst,q⟩:=z;have hf:=I1.ok.frames;have F1':=F1;rw[bp.stk]at F1' hf;refine KH hf bp.fr F1' hst fun h2 F2 u2=>BA (s:={ s1 with heap:=h2 }) (fo:=none) F2 fun h3 F3 u3=>?_;obtain⟨I2,k2⟩:=I1.up bp k1 F2.stays u2;obtain⟨I3,k3⟩:=I2.up bp k2 F3.stays u3;exact hh pins D e c dx σ1 H1 _ B _ I.ok I3 k3 (by rw[bd.stk];exact F3) q
end
structure Exc where
 nm:Str
 fs:List (Str×CD)
inductive Rs where
 |v (x:CD)|x (e:Exc)
inductive XM where
 |o (o:Out)|xc (γ:Ga) (e:Exc)
noncomputable abbrev EX:=Ga->Sto->Option (Rs×Sto)
noncomputable abbrev AX:=Ga->Sto->Option ((List CD ⊕ Exc)×Sto)
noncomputable abbrev SFX:=Ga->Sto->Option (XM×Sto)
noncomputable abbrev FX:=List CD->Sto->Option (Rs×Sto)
section
variable(K:Fg)
noncomputable def ExR(W:Wd)(ex:Exc)(c:Value)(dx:Option Addr):Prop:=c=.ref (aS K ex.nm)/\NY K W dx ex.fs
noncomputable def aFp(E:XK)(Q:VK)(W:Wd)(H:Hp):Rs->Prop
 |.v x=>∀v,cF K W x v->Q v H
 |.x ex=>∀c dx,ExR K W ex c dx->E c dx H
noncomputable def SEX(EE:St->XK)(t:TE)(f:EX):Prop:=∀γ M r M',f γ M=some (r,M')->∀(W:Wd)(H:Hp)(σ:St)(Q:VK),Good K W M H->cQ K W γ σ->(∀W' H',W.Ext W'->Good K W' M' H'->aFp K (EE σ) Q W' H' r)->t σ H Q
noncomputable def aIR(E:XK)(Q:List V->Hp->Prop)(W:Wd)(H:Hp):List CD ⊕ Exc->Prop
 |.inl xs=>∀vs,bU K W xs vs->Q vs H
 |.inr ex=>∀c dx,ExR K W ex c dx->E c dx H
noncomputable def SAX(EE:St->XK)(t:TA)(f:AX):Prop:=∀γ M r M',f γ M=some (r,M')->∀(W:Wd)(H:Hp)(σ:St)(Q:List V->Hp->Prop),Good K W M H->cQ K W γ σ->(∀W' H',W.Ext W'->Good K W' M' H'->aIR K (EE σ) Q W' H' r)->t σ H Q
noncomputable def aIw(EE:St->XK)(D:Ends)(W:Wd)(H:Hp):XM->Prop
 |.o o=>aAi K D W H o
 |.xc γ ex=>∀σ c dx,cQ K W γ σ->ExR K W ex c dx->EE σ c dx H
noncomputable def SSX(EE:St->XK)(t:TS)(f:SFX):Prop:=∀γ M o M',f γ M=some (o,M')->∀(W:Wd)(H:Hp)(σ:St)(D:Ends),Good K W M H->cQ K W γ σ->(∀W' H',W.Ext W'->Good K W' M' H'->aIw K EE D W' H' o)->t D σ H
noncomputable def spX(f:FX):Sp:=fun vs H Q E=>∃xs M W r M',Good K W M H/\bU K W xs vs/\f xs M=some (r,M')/\∀W' H',W.Ext W'->Good K W' M' H'->aFp K E Q W' H' r
end
noncomputable def liE(f:EF):EX:=fun γ M=>(f γ M).bind fun r=>some (.v r.1,r.2)
noncomputable def liA(f:AF):AX:=fun γ M=>(f γ M).bind fun r=>some (.inl r.1,r.2)
noncomputable def liS(f:SF):SFX:=fun γ M=>(f γ M).bind fun r=>some (.o r.1,r.2)
noncomputable def zP(f:EX)(g:AX):AX:=fun γ M=>(f γ M).bind fun r=>match r.1 with
 |.x e=>some (.inr e,r.2)
 |.v x=>(g γ r.2).bind fun q=>match q.1 with
  |.inr e=>some (.inr e,q.2)
  |.inl xs=>some (.inl (x::xs),q.2)
noncomputable def aFo(f:EX)(k:CD->Sto->Option (Rs×Sto)):EX:=fun γ M=>(f γ M).bind fun r=>match r.1 with
 |.x e=>some (.x e,r.2)
 |.v x=>k x r.2
noncomputable def YK(f:AX)(k:List CD->Sto->Option (Rs×Sto)):EX:=fun γ M=>(f γ M).bind fun r=>match r.1 with
 |.inr e=>some (.x e,r.2)
 |.inl xs=>k xs r.2
noncomputable def GY(h:FX)(f:AX):EX:=YK f h
noncomputable def PK(f:AX):EX:=YK f fun xs M=>(iQ xs).bind fun ds=>if ds.length<=sizeLine then some (.v (.d (.tuple ds)),M)else none
noncomputable def NU(nm f:Str)(e:EX):EX:=aFo e fun x M=>(objOf nm M x).bind fun p=>(p.2.lookup f).bind fun v=>some (.v v,M)
noncomputable def xIf(t:TF)(f g:EX):EX:=fun γ M=>(t γ M).bind fun r=>if r.1=true then f γ r.2 else g γ r.2
noncomputable def lV(f g:SFX):SFX:=fun γ M=>(f γ M).bind fun r=>match r.1 with
 |.o (.nx γ')=>g γ' r.2
 |o=>some (o,r.2)
noncomputable def MM(f:EX):SFX:=fun γ M=>(f γ M).bind fun r=>match r.1 with
 |.x e=>some (.xc γ e,r.2)
 |.v x=>some (.o (.rt x),r.2)
noncomputable def aIh(f:EX):SFX:=fun γ M=>(f γ M).bind fun r=>match r.1 with
 |.x e=>some (.xc γ e,r.2)
 |.v _=>some (.o (.nx γ),r.2)
noncomputable def TV(f:EX)(g:GF):SFX:=fun γ M=>(f γ M).bind fun r=>match r.1 with
 |.x e=>some (.xc γ e,r.2)
 |.v x=>(g x γ r.2).bind fun q=>some (.o (.nx q.1),q.2)
noncomputable def IJ(c:TF)(f g:SFX):SFX:=fun γ M=>(c γ M).bind fun r=>if r.1=true then f γ r.2 else g γ r.2
noncomputable def CO(nm:Str):SFX:=fun γ M=>some (.xc γ ⟨nm,[]⟩,M)
noncomputable def fnX(ps N:Nat)(b:SFX):FX:=fun xs M=>if xs.length=ps then(b (xs.map some++List.replicate (N-xs.length) none) M).bind fun r=>match r.1 with
 |.o (.rt x)=>some (.v x,r.2)
 |.o (.nx _)=>some (.v (.d .none),r.2)
 |.xc _ e=>some (.x e,r.2)
 |_=>none else none
noncomputable def aCw:Option Nat->Ga->Ga
 |none,γ=>γ
 |some i,γ=>γ.set i none
noncomputable def setG:Option Nat->Ga->CD->Ga
 |none,γ,_=>γ
 |some i,γ,x=>γ.set i (some x)
noncomputable def aIu(n:Option Nat):Out->Out
 |.nx γ=>.nx (aCw n γ)
 |.bk γ=>.bk (aCw n γ)
 |.ct γ=>.ct (aCw n γ)
 |.rt x=>.rt x
structure HMi where
 tab:List (Str×Bool)
 n:Option Nat
 f:SF
noncomputable def aBB:List HMi->Ga->Exc->Sto->Option (Out×Sto)
 |[],_,_,_=>none
 |h::r,γ,ex,M=>match h.tab.lookup ex.nm with
  |some true=>(h.f (setG h.n γ (.c M.length)) (M++[.exc false ex.nm ex.fs])).bind fun q=>some (aIu h.n q.1,q.2)
  |some false=>aBB r γ ex M
  |none=>none
noncomputable def aDe(b:SFX)(hs:List HMi):SF:=fun γ M=>(b γ M).bind fun r=>match r.1 with
 |.o o=>some (o,r.2)
 |.xc γ' ex=>aBB hs γ' ex r.2
section
variable{K:Fg}{EE:St->XK}{ta tb:TE}{tA:TA}{t u:TS}{f g:EX}{fa:AX}{p q:SFX}{tt:TT}{ft:TF}{tg:TG}{hg:GF}
theorem aHJ{f:EF}(a:SE K ta f):SEX K EE ta (liE f):=by
 intro γ M r M' h W H σ Q G R k;obtain⟨⟨x,M1⟩,h1,h⟩:=aG h;cases h;exact a _ _ _ _ h1 W H σ Q G R fun v W' H' e G' rv=>k W' H' e G' v rv
theorem aHw{f:AF}(a:SA K tA f):SAX K EE tA (liA f):=by
 intro γ M r M' h W H σ Q G R k;obtain⟨⟨x,M1⟩,h1,h⟩:=aG h;cases h;exact a _ _ _ _ h1 W H σ Q G R fun v W' H' e G' rv=>k W' H' e G' v rv
theorem YB{f:SF}(a:SS K t f):SSX K EE t (liS f):=by
 intro γ M r M' h W H σ D G R k;obtain⟨⟨x,M1⟩,h1,h⟩:=aG h;cases h;exact a _ _ _ _ h1 W H σ D G R fun W' H' e G'=>k W' H' e G'
theorem YW(a:SEX K EE ta f)(b:SAX K EE tA fa):SAX K EE (pH ta tA) (zP f fa):=by
 intro γ M r M' h W H σ Q G R k;obtain⟨⟨x,M1⟩,h1,h⟩:=aG h;sleep 9;cases x with
 |x e=>cases h;exact k W1 H1 e1 G1
 |v x=>
  intro v rv;obtain⟨⟨y,M2⟩,h2,h⟩:=aG (show(fa γ M1).bind _=_ from h);refine b _ _ _ _ h2 W1 H1 σ _ G1 (R.up e1) fun W2 H2 e2 G2=>?_;cases y with
  |inr e=>cases h;exact k W2 H2 (e1.trans e2) G2
  |inl xs=>cases h;exact fun vs rs=>k W2 H2 (e1.trans e2) G2 _ (.cons (rv.up e2) rs)
theorem aDD(a:SAX K EE tA fa):SEX K EE (VS tA) (PK fa):=by
 intro γ M r M' h W H σ Q G R k;obtain⟨⟨x,M1⟩,h1,h⟩:=aG h;sleep 9;cases x with
 |inr e=>cases h;exact k W1 H1 e1 G1
 |inl xs=>
  intro vs rs;obtain⟨ds,h2,h⟩:=aG (show(iQ xs).bind _=_ from h)
  have hl:ds.length<=sizeLine:=by
   by_cases z:ds.length<=sizeLine
   .exact z
   .rw[A5 z]at h;cases h
  rw[A3 hl]at h;cases h;refine⟨by rw[<- Paired.len rs,<- BC h2];exact hl,fun b hb=>?_⟩;obtain⟨e2,G2⟩:=G1.lay (o:=.tup vs) hb;exact k _ _ (e1.trans e2) G2 _ ⟨b,vs,rfl,SqT.of aR,aJ.same e2.ff _ _ (dO h2 rs)⟩
theorem aAA{h:FX}(a:SAX K EE tA fa):SEX K EE (JO (spX K h) EE tA) (GY h fa):=by
 intro γ M r M' hh W H σ Q G R k;obtain⟨⟨x,M1⟩,h1,hh⟩:=aG hh;sleep 9;cases x with
 |inr e=>cases hh;exact k W1 H1 e1 G1
 |inl xs=>exact fun vs rs=>⟨xs,M1,W1,r,M',G1,rs,hh,fun W2 H2 e2 G2=>k W2 H2 (e1.trans e2) G2⟩
theorem aDi{nm fl:Str}(c:Cls K (aS K nm))(n:fZ K (aS K nm) fl)(a:SEX K EE ta f):SEX K EE (aEk K ta fl) (NU nm fl f):=by
 intro γ M r M' hh W H σ Q G R k;obtain⟨⟨x,M1⟩,h1,hh⟩:=aG hh;sleep 9;cases x with
 |x e=>cases hh;exact k W1 H1 e1 G1
 |v x=>
  intro v rv;obtain⟨⟨i,fs⟩,h2,hh⟩:=aG (show(objOf nm M1 x).bind _=_ from hh);obtain⟨y,h3,hh⟩:=aG hh;cases hh;obtain⟨rfl,hi⟩:=xC h2;obtain⟨dx,us,ho,hp⟩:=G1.objAt hi;obtain⟨u,hu,ru⟩:=tU hp h3;exact⟨_,_,dx,us,u,rv.2,ho,c,n,hu,k W1 H1 e1 G1 u ru⟩
theorem aIf(c:STt K tt ft)(a:SEX K EE ta f)(b:SEX K EE tb g):SEX K EE (tIf tt ta tb) (xIf ft f g):=by
 intro γ M r M' hh W H σ Q G R k;obtain⟨⟨x,M1⟩,h1,hh⟩:=aG hh;refine c _ _ _ _ h1 W H σ _ G R fun W1 H1 e1 G1=>?_;cases x with
 |true=>rw[A3 rfl];rw[A3 rfl]at hh;exact a _ _ _ _ hh W1 H1 σ Q G1 (R.up e1) fun W2 H2 e2 G2=>k W2 H2 (e1.trans e2) G2
 |false=>rw[A5 A4];rw[A5 A4]at hh;exact b _ _ _ _ hh W1 H1 σ Q G1 (R.up e1) fun W2 H2 e2 G2=>k W2 H2 (e1.trans e2) G2
theorem aDq(a:SSX K EE t p)(b:SSX K EE u q):SSX K EE (aHr t u) (lV p q):=by
 sleep 5;obtain⟨⟨x,M1⟩,h1,hh⟩:=aG hh;sleep 9;cases x with
 |xc γ' e=>cases hh;exact k W1 H1 e1 G1
 |o x=>
  cases x with
  |nx γ'=>exact fun σ' R'=>b _ _ _ _ hh W1 H1 σ' D G1 R' fun W2 H2 e2 G2=>k W2 H2 (e1.trans e2) G2
  |bk γ'=>cases hh;exact k W1 H1 e1 G1
  |ct γ'=>cases hh;exact k W1 H1 e1 G1
  |rt x=>cases hh;exact k W1 H1 e1 G1
theorem aDC(a:SEX K EE ta f):SSX K EE (aGn ta) (MM f):=by
 sleep 5;obtain⟨⟨x,M1⟩,h1,hh⟩:=aG hh;sleep 9;cases x with
 |x e=>cases hh;exact fun c dx z=>k W1 H1 e1 G1 σ c dx (R.up e1) z
 |v x=>cases hh;exact fun v rv=>k W1 H1 e1 G1 v rv
theorem aDZ(a:SEX K EE ta f)(b:SG K tg hg):SSX K EE (aCu ta tg) (TV f hg):=by
 sleep 5;obtain⟨⟨x,M1⟩,h1,hh⟩:=aG hh;sleep 9;cases x with
 |x e=>cases hh;exact fun c dx z=>k W1 H1 e1 G1 σ c dx (R.up e1) z
 |v x=>
  intro v rv;obtain⟨⟨γ2,M2⟩,h2,hh⟩:=aG (show(hg x γ M1).bind _=_ from hh);cases hh;exact b _ _ _ _ _ h2 W1 H1 σ v _ G1 (R.up e1) rv fun σ2 W2 H2 e2 G2 R2=>k W2 H2 (e1.trans e2) G2 σ2 R2
theorem aGC(c:STt K tt ft)(a:SSX K EE t p)(b:SSX K EE u q):SSX K EE (aIB tt t u) (IJ ft p q):=by
 sleep 5;obtain⟨⟨x,M1⟩,h1,hh⟩:=aG hh;refine c _ _ _ _ h1 W H σ _ G R fun W1 H1 e1 G1=>?_;cases x with
 |true=>rw[A3 rfl];rw[A3 rfl]at hh;exact a _ _ _ _ hh W1 H1 σ D G1 (R.up e1) fun W2 H2 e2 G2=>k W2 H2 (e1.trans e2) G2
 |false=>rw[A5 A4];rw[A5 A4]at hh;exact b _ _ _ _ hh W1 H1 σ D G1 (R.up e1) fun W2 H2 e2 G2=>k W2 H2 (e1.trans e2) G2
theorem XO{nm:Str}:SSX K EE (JE EE (aS K nm)) (CO nm):=by
 sleep 5;cases hh;exact k W H (.refl _) G σ _ none R ⟨rfl,rfl⟩
theorem cQ.setN{γ:Ga}{n:Option Nat}{x:CD}{v:V}(R:cQ K W γ σ)(r:cF K W x v):cQ K W (setG n γ x) (setN n σ v):=by
 cases n with
 |none=>exact R
 |some i=>exact Paired.set (x:=some x) (y:=some v) r i R
theorem cQ.unbN{γ:Ga}{n:Option Nat}(R:cQ K W γ σ):cQ K W (aCw n γ) (unbN n σ):=by
 cases n with
 |none=>exact R
 |some i=>exact Paired.set (x:=none) (y:=none) True.intro i R
inductive HsM(K:Fg):List HR->List HMi->Prop
 |nil:HsM K [] []
 |cons {h:HR} {m:HMi} {hs:List HR} {ms:List HMi} (hn:h.n=m.n) (ht:∀nm b,m.tab.lookup nm=some b->PySem.W.exmOne K (.ref (aS K nm)) h.c=some b) (hS:SS K h.t m.f) (r:HsM K hs ms):HsM K (h::hs) (m::ms)
theorem aCc{D:Ends}{W:Wd}{M M':Sto}{H:Hp}{γ:Ga}{σ:St}{ex:Exc}{c:Value}{dx:Option Addr}{o:Out}(G:Good K W M H)(R:cQ K W γ σ)(E:ExR K W ex c dx):
 ∀{hs:List HR}{ms:List HMi},HsM K hs ms->aBB ms γ ex M=some (o,M')->(∀W' H',W.Ext W'->Good K W' M' H'->aAi K D W' H' o)->tHs K D hs σ c dx H
 |_,_,.nil=>fun h _=>by cases h
 |_,_,@HsM.cons _ h m hs ms hn ht hS r=>fun hh k=>by
  obtain⟨rfl,rx⟩:=E;unfold aBB at hh;cases e:m.tab.lookup ex.nm with
  |none=>rw[e]at hh;cases hh
  |some b=>
   rw[e]at hh;refine⟨b,ht _ _ e,?_⟩;cases b with
   |false=>rw[A5 A4];exact aCc G R ⟨rfl,rx⟩ r hh k
   |true=>
    rw[A3 rfl];intro a ha;obtain⟨⟨o1,M1⟩,h1,hh⟩:=aG (show(m.f _ _).bind _=_ from hh);have hh':some (aIu m.n o1,M1)=some (o,M'):=hh;cases hh';have G':Good K (W.more a) (M++[.exc false ex.nm ex.fs]) (upd H a (.ext (oQ a (.ref (aS K ex.nm)) dx false))):=G.new ha ⟨dx,rfl,rx⟩;have e1:=W.ext_more a;have ra:cF K (W.more a) (.c M.length) (.ref a):=⟨by show M.length<W.n+1;rw[G.n];exact F5 _,by show _=V.ref (if M.length=W.n then a else _);rw[A3 G.n.symm]⟩;rw[hn];refine hS _ _ _ _ h1 (W.more a) _ _ _ G' ((R.up e1).setN ra) fun W2 H2 e2 G2=>?_;have kk:=k W2 H2 (e1.trans e2) G2;cases o1 with
    |nx γ2=>exact fun σ2 R2=>kk _ R2.unbN
    |bk γ2=>exact fun σ2 R2=>kk _ R2.unbN
    |ct γ2=>exact fun σ2 R2=>kk _ R2.unbN
    |rt x=>exact kk
theorem aIA{tb:(St->XK)->TS}{rs:List HR}{ms:List HMi}(b:∀EE,SSX K EE (tb EE) p)(h:HsM K rs ms):SS K (aGc K tb rs) (aDe p ms):=by
 sleep 5;obtain⟨⟨x,M1⟩,h1,hh⟩:=aG hh;refine b _ _ _ _ _ h1 W H σ D G R fun W1 H1 e1 G1=>?_;cases x with
 |o x=>cases hh;exact k W1 H1 e1 G1
 |xc γ' ex=>exact fun σ' c dx R' E=>aCc G1 R' E h hh fun W2 H2 e2 G2=>k W2 H2 (e1.trans e2) G2
end
section
variable{ι:Type}
structure MX(K:Fg)(X:ι->Cx)(EE:ι->St->XK)(e:Expr)(f:EX):Prop where
 ex:∃t:ι->TE,(∀i,PE (X i) e (t i))/\∀i,SEX K (EE i) (t i) f
structure MAX(K:Fg)(X:ι->Cx)(EE:ι->St->XK)(es:List Expr)(f:AX):Prop where
 ex:∃t:ι->TA,(∀i,PA (X i) es (t i))/\∀i,SAX K (EE i) (t i) f
 st:LZ es
structure MSX(K:Fg)(X:ι->Cx)(EE:ι->St->XK)(st:Stmt)(f:SFX):Prop where
 ex:∃t:ι->TS,(∀i,PS (X i) st (t i))/\∀i,SSX K (EE i) (t i) f
structure MLX(K:Fg)(X:ι->Cx)(EE:ι->St->XK)(st:List Stmt)(f:SFX):Prop where
 ex:∃t:ι->TS,(∀i,PSs (X i) st (t i))/\∀i,SSX K (EE i) (t i) f
variable{K:Fg}{X:ι->Cx}{EE:ι->St->XK}{e a b c tg iter:Expr}{es:List Expr}{f g:EX}{fa:AX}{p q:SFX}{ft:TF}{gf:GF}{st:Stmt}{sts sts':List Stmt}{pos:Pos}
theorem aIJ{f:EF}(x:ME K X e f):MX K X EE e (liE f):=by
 sleep 2;exact⟨fun _=>t,x1,fun _=>aHJ x2⟩
theorem JL{f:AF}(x:MA K X es f):MAX K X EE es (liA f):=by
 sleep 2;exact⟨⟨fun _=>t,x1,fun _=>aHw x2⟩,x.st⟩
theorem JJ{f:SF}(x:MS K X st f):MSX K X EE st (liS f):=by
 sleep 2;exact⟨fun _=>t,x1,fun _=>YB x2⟩
theorem qL{f:SF}(x:ML K X sts f):MLX K X EE sts (liS f):=by
 sleep 2;exact⟨fun _=>t,x1,fun _=>YB x2⟩
theorem max_cons(x:MX K X EE e f)(y:MAX K X EE es fa)(hs:PQ e es:=by intro _;rfl):MAX K X EE (e::es) (zP f fa):=by
 sleep 4;exact⟨⟨_,fun i=>hZ (x1 i) (y1 i) (hs _),fun i=>YW (x2 i) (y2 i)⟩,hs,y.st⟩
theorem aIe{k:Nat}(x:MAX K X EE es fa):MX K X EE (.Tuple es k pos) (PK fa):=by
 sleep 2;exact⟨_,fun i=>BP (x1 i),fun i=>aDD (x2 i)⟩
theorem JW{k:Nat}{x:Str}{ps:List Str}{F:FX}{p:Pos}(ok:∀i,XOk (X i) (EE i))(C:∀i,nD (X i).prog (X i).w (X i).K (X i).mg (X i).base k x ps (spX K F))(hr:∀i,cB k (X i).A)(y:MAX K X EE (e::es) fa)(hg:∀i,Gl (X i) x:=by intro _;rfl)(hd:(x==("__debug__":Str))=false:=by decide):
 MX K X EE (.Call (.Name x p) (e::es) [] pos) (GY F fa):=by
 obtain⟨u,y1,y2⟩:=y.ex;exact⟨_,fun i=>aCE (ok i) (C i) (hr i) (y1 i) (hg i) hd (y.st.1 _) (y.st.2.plain _ _),fun i=>aAA (y2 i)⟩
theorem aIN(x:MT K X c ft)(y:MX K X EE a f)(z:MX K X EE b g):MX K X EE (.IfExp c a b pos) (xIf ft f g):=by
 sleep 7;exact⟨_,fun i=>OA (x1 i) (y1 i) (z1 i),fun i=>aIf x2 (y2 i) (z2 i)⟩
theorem lF(x:MSX K X EE st p):MLX K X EE [st] p:=by
 sleep 2;exact⟨t,fun i=>SW (x1 i),x2⟩
theorem fH(x:MSX K X EE st p)(y:MLX K X EE sts q):MLX K X EE (st::sts) (lV p q):=by
 sleep 4;exact⟨_,fun i=>OQ (x1 i) (y1 i),fun i=>aDq (x2 i) (y2 i)⟩
theorem TX(x:MX K X EE e f):MSX K X EE (.Return (some e) pos) (MM f):=by
 sleep 2;exact⟨_,fun i=>aCa (x1 i),fun i=>aDC (x2 i)⟩
theorem aDK(i:Nat){x':Str}{pos':Pos}(hN:∀j,(X j).N.Nodup)(x:MX K X EE e f)(hi:∀j,(X j).N[i]?=some x':=by intro _;rfl)(hx:∀j,Loc (X j).env.scope x':=by intro _;first|exact Or.inl rfl|exact Or.inr rfl)(hs:∀j,swapsWith e (some (.Name x' pos')) pos.line (X j).env=pure false:=by intro _;rfl)
 (hf:∀j,(X j).fn x'=true\/(X j).env.scope.names.lookup x'=some .local:=by intro _;first|exact .inl rfl|exact .inr rfl):MSX K X EE (.Assign [.Name x' pos'] e pos) (TV f (hName i)):=by
 sleep 2;exact⟨_,fun j=>aAD (hN j) (hi j) (hx j) (x1 j) (hs j) (hf j),fun j=>aDZ (x2 j) AW⟩
theorem yE(x:MT K X c ft)(y:MLX K X EE sts p)(z:MLX K X EE sts' q):MSX K X EE (.If c sts sts' pos) (IJ ft p q):=by
 sleep 7;exact⟨_,fun i=>aFm (x1 i) (y1 i) (z1 i),fun i=>aGC x2 (y2 i) (z2 i)⟩
theorem BH{x:Str}{np cpos:Pos}(ok:∀i,XOk (X i) (EE i))(hK:∀i,(X i).K=K)(hc:∀i,(X i).calm=true)(hm:∀i,(X i).mg x=some (.ref (aS K x)))(q:PySem.W.excIn K (aS K x) bmV "ValueError.__new__"=true)(hg:∀i,Gl (X i) x:=by intro _;rfl)(hd:(x==("__debug__":Str))=false:=by decide):
 MSX K X EE (.Raise (some (.Call (.Name x np) [] [] cpos)) none pos) (CO x):=
 ⟨fun i=>JE (EE i) (aS K x),fun i=>UX (ok i) (hc i) (hm i) (by rw[hK i];exact q) (hg i) hd,fun _=>XO⟩
noncomputable def aJz(X:ι->Cx):ι×List (Addr×Obj)×(St->XK)->Cx:=fun j=>(AH (X j.1) j.2.1).wish (XS (AH (X j.1) j.2.1) j.2.2)
noncomputable def aJw:ι×List (Addr×Obj)×(St->XK)->St->XK:=fun j=>j.2.2
noncomputable def aKp(X:ι->Cx):ι×Addr->Cx:=fun j=>hCx (X j.1) j.2
theorem aFu(bd:∀i,Body (X i))(j:ι×List (Addr×Obj)×(St->XK)):XOk (aJz X j) (aJw (ι:=ι) j):=
 XOk.of (X:=AH (X j.1) j.2.1) ⟨(bd j.1).stk,(bd j.1).fr,(bd j.1).ex⟩ _
structure MH(K:Fg)(X:ι->Cx)(hs:List ExceptHandler)(ms:List HMi):Prop where
 ex:∃rs,(∀i,aBR (X i) hs rs)/\HsM K rs ms
theorem aIk:MH K X [] []:=⟨[],fun _=>aHP,.nil⟩
theorem HW{x:Str}{np hp:Pos}{nm:Option Str}{b₀:Stmt}{suite:List Stmt}{hs:List ExceptHandler}{ms:List HMi}{tab:List (Str×Bool)}{n:Option Nat}{f:SF}(cv:Value)(bd:∀i,Body (X i))(hc:∀i,aAl (X i) x cv)
 (hn:∀i,aIS (X i) nm n)
 (ht:∀p∈tab,PySem.W.exmOne K (.ref (aS K p.1)) cv=some p.2) (hS:ML K (aKp X) (b₀::suite) f) (r:MH K X hs ms) (hg:∀i,Gl (X i) x:=by intro _;rfl) (hd:(x==("__debug__":Str))=false:=by decide):
 MH K X (.ExceptHandler (some (.Name x np)) nm (b₀::suite) hp::hs) (⟨tab,n,f⟩::ms):=by
 obtain⟨t,h1,h2⟩:=hS.ex;obtain⟨rs,r1,r2⟩:=r.ex;refine⟨⟨cv,n,t⟩::rs,fun i=>aDF (h:=⟨cv,n,t⟩) (bd i) (hc i) (hg i) hd (hn i) (fun e=>h1 (i,e)) (r1 i),.cons rfl (fun nm b z=>?_) h2 r2⟩;exact ht (nm,b) (E6 z)
theorem aIc{h₀:ExceptHandler}{hs:List ExceptHandler}{ms:List HMi}(bd:∀i,Body (X i))(hK:∀i,(X i).K=K)(x:MLX K (aJz X) (aJw (ι:=ι)) sts p)(h:MH K X (h₀::hs) ms):MS K X (.Try sts (h₀::hs) [] [] pos) (aDe p ms):=by
 obtain⟨rs,r1,r2⟩:=h.ex;sleep 2;refine⟨aGc K (fun EE D σ H=>∀i pins,t (i,pins,EE) D σ H) rs,fun i=>?_,aIA (fun EE=>?_) r2⟩
 .have:=aHt (X:=X i) (tb:=fun EE D σ H=>∀i pins,t (i,pins,EE) D σ H) (pos:=pos) (bd i) (fun pins EE ps s σ H D I h=>x1 (i,pins,EE) ps s σ H D I (h i pins)) (r1 i);rw[hK i]at this;exact this
 .exact fun γ M o M' hh W H σ D G R k i pins=>x2 (i,pins,EE) γ M o M' hh W H σ D G R k
section
variable{P:Program}{w:World}{K:Fg}{mg:Str->Option Value}{base:Heap}
noncomputable abbrev aDk(P:Program)(w:World)(K:Fg)(mg:Str->Option Value)(base:Heap)(N:List Str)(x:Str)(st:Stmt)(f:Addr)(cdv:Value)(A:Around)(outer:List Env)(s:Shared)(H:Hp)(E:XK):Unit->Cx:=fun _=>
 (nR (CX1 P w) P w K mg base N x (aH st) f cdv A outer s H E).wish (XS (nR (CX1 P w) P w K mg base N x (aH st) f cdv A outer s H E) fun _=>E)
theorem uX{N:List Str}{x:Str}{st:Stmt}{f:Addr}{cdv:Value}{A:Around}{outer:List Env}{s:Shared}{E:XK}(i:Unit):XOk (aDk P w K mg base N x st f cdv A outer s H E i) ((fun _ _=>E:Unit->St->XK) i):=XOk.of UQ _
theorem Fun.okXF{x qual:Str}{st:Stmt}{N ps:List Str}{k:Nat}{b:SFX}{f:Addr}{fd:FuncData}(Fu:Fun K x qual st f fd)(S:aT N ps (aH st))
 (hbody:∀(f:Addr)(cdv:Value)(A:Around)(outer:List Env)(s:Shared)(H:Hp)(E:XK),cB k (A.deeper (envOfC qual (aH st) s.heap.objs.size f cdv))->
  MLX K (aDk P w K mg base N qual st f cdv A outer s H E) (fun _ _=>E) (bQ st) b):jF P w K mg base (CX1 P w) (k+1) f fd ps (spX K (fnX ps.length N.length b)):=by
 obtain⟨oc,od,kV,doc,pm,an,cdv,ct,osl,rfl,lk,hcd⟩:=Fu.ex
 have len:∀vs H Q E,spX K (fnX ps.length N.length b) vs H Q E->vs.length=ps.length:=fun vs H Q E h=>by
  obtain⟨xs,M,W,y,M',G,R,hf,_⟩:=h;by_cases hl:xs.length=ps.length
  .rw[<- Paired.len R];exact hl
  .unfold fnX at hf;rw[A5 hl]at hf;cases hf
 refine aGv lk hcd S len fun A outer s H vs Q E hr h=>?_;obtain⟨t,h1,h2⟩:=(hbody f cdv A outer s H E hr).ex;refine⟨t (),h1 (),?_⟩;obtain⟨xs,M,W,r,M',G,R,hf,kk⟩:=h
 have hl:xs.length=ps.length:=by
  by_cases hl:xs.length=ps.length
  .exact hl
  .unfold fnX at hf;rw[A5 hl]at hf;cases hf
 unfold fnX at hf;rw[A3 hl]at hf;obtain⟨⟨o,M1⟩,h3,hf⟩:=aG hf
 have hR:cQ K W (xs.map some++List.replicate (N.length-xs.length) none) (start N vs):=by
  unfold start;rw[<- Paired.len R];exact Paired.app (bU.some R) (rJ _)
 refine h2 () _ _ _ _ h3 W H _ _ G hR fun W1 H1 e1 G1=>?_;cases o with
 |xc γ e=>cases hf;exact fun σ c dx _ z=>kk W1 H1 e1 G1 c dx z
 |o o=>
  cases o with
  |rt x=>cases hf;exact fun v r=>kk W1 H1 e1 G1 v r
  |nx γ=>cases hf;exact fun σ r=>kk W1 H1 e1 G1 .non rfl
  |bk γ=>cases hf
  |ct γ=>cases hf
theorem Def.okX{x:Str}{st:Stmt}{N ps:List Str}{k:Nat}{b:SFX}(D:Def K mg x st)(S:aT N ps (aH st))
 (hb:∀(kV doc pm:Value)(an:Option Addr)(cdv ct:Value)(us:List Value),us.length=ps.length->bindArgs (PySem.W.fnOf x x (dW st) (bQ st) (aH st) .none kV doc pm an cdv ct) ⟨us,[]⟩=pure (ps.zip us))
 (hbody:∀(f:Addr)(cdv:Value)(A:Around)(outer:List Env)(s:Shared)(H:Hp)(E:XK),cB k (A.deeper (envOfC x (aH st) s.heap.objs.size f cdv))->
  MLX K (aDk P w K mg base N x st f cdv A outer s H E) (fun _ _=>E) (bQ st) b):nD P w K mg base (k+1) x ps (spX K (fnX ps.length N.length b)):=by
 obtain⟨f,fd,Fu,m⟩:=D.ex;exact⟨f,fd,Fu.okXF S hbody,m,Fu.kp,Fu.binds hb⟩
end
end
structure XC(K:Fg)(C:Addr):Prop where
 c:wJ K C
 ha:PySem.W.findIn K (.ref C) "__class__"=some (some (.builtin "object.__class__"))
 hn:PySem.W.specialIn K (.builtin "object.__class__") "__get__"=some (some (.builtin "getset_descriptor.__get__"))
 htk:PySem.W.takesIn K (.builtin "object.__class__")=some true
 hm:PySem.W.mroIn K C (.type "object")=some true
noncomputable def aHU(H:Hp):Option Addr->Prop
 |none=>True
 |some d=>∃us,H d=some (.xd us)
inductive ClV:V->Value->Prop
 |own (C:Addr):ClV (.ref C) (.ref C)
 |ty (T:String):ClV (.ty T) (.type T)
theorem ClV.is{v:V}{c u:Value}(h:ClV v c)(r:RelV v u):u=c:=by cases h<;>exact r
noncomputable def aAL(K:Fg):List V->Hp->VK->Prop:=fun xs H Q=>∃v cv c b,xs=[v,cv]/\ClV cv c/\Q (.bl b) H /\
 ((v=.non/\PySem.W.kitOne K (.type "NoneType") c=some b)\/∃a C dx fr,v=.ref a/\H a=some (.ext (oQ a (.ref C) dx fr))/\aHU H dx/\XC K C/\PySem.W.kitOne K (.ref C) c=some b)
section
variable{X:Cx}{K:Fg}
theorem aBJ{pins:List (Addr×Obj)}{s:Shared}{a C:Addr}{dx:Option Addr}{fr:Bool}(I:Inv X pins σ H s)(h:H a=some (.ext (oQ a (.ref C) dx fr)))(d:aHU H dx):∃ox od,PySem.W.InstAt s.heap a ox C od/\ox.dict=dx:=by
 obtain⟨⟨o,vs,h1,h2,h3,h4,_⟩,_⟩:=I.hok a _ h
 have no:PySem.W.notCls o=true:=by
  obtain⟨_,_,dt,_⟩:=o;cases h4;rfl
 cases dx with
 |none=>exact⟨o,none,⟨h1,h2,no,by rw[h3];exact True.intro⟩,h3⟩
 |some d'=>
  obtain⟨us,hd⟩:=d;obtain⟨od,q⟩:=(I.hok d' _ hd).there;exact⟨o,some od,⟨h1,h2,no,by rw[h3];exact q⟩,h3⟩
theorem VH:gO X (.builtin "isinstance") (aAL X.K):=by
 intro pins s σ H vs us Q I r h;obtain⟨v,cv,c,b,rfl,rc,q,h⟩:=h;obtain⟨u,u',rfl,ru,ru'⟩:=vals2 r;cases rc.is ru';rcases h with⟨rfl,e⟩|⟨a,C,dx,fr,rfl,ha,d,xc,e⟩
 .cases (show u=Value.none from ru);exact PySem.W.kia_one PySem.W.kitx_none I.kIn True.intro e (fun z=>nomatch z) fun tk=>⟨.bl _,H,I.tok tk,rfl,q⟩
 .cases (show u=Value.ref a from ru);obtain⟨ox,od,J,_⟩:=aBJ I ha d;exact PySem.W.kia_one (aCs xc.c xc.ha xc.hn xc.htk xc.hm) I.kIn ⟨ox,od,J⟩ e (fun z=>nomatch z) fun tk=>⟨.bl _,H,I.tok tk,rfl,q⟩
theorem aJh(h:X.K=K):gO X (.builtin "isinstance") (aAL K):=by subst h;exact VH
noncomputable def uN(tab:List (Str×Bool))(nn:Option Bool)(f:EF):EF:=fun γ M=>(f γ M).bind fun r=>match r.1 with
 |.c i=>(match r.2[i]? with
  |some (.exc _ nm _)=>(tab.lookup nm).bind fun b=>some (.d (.bool b),r.2)
  |_=>none)
 |.d .none=>nn.bind fun b=>some (.d (.bool b),r.2)
 |_=>none
theorem NY.ok{dx:Option Addr}{fs:List (Str×CD)}(r:NY K W dx fs)(s:jO W.F H):aHU H dx:=by
 cases dx with
 |none=>exact True.intro
 |some d=>obtain⟨_,us,h,_⟩:=r;exact⟨us,s _ _ h⟩
theorem Good.excAt{i:Nat}{fr:Bool}{nm:Str}{fs:List (Str×CD)}(G:Good K W M H)(h:M[i]?=some (.exc fr nm fs)):∃dx,H (W.α i)=some (.ext (oQ (W.α i) (.ref (aS K nm)) dx fr))/\NY K W dx fs:=by
 obtain⟨_,o,h2,h3⟩:=G.cs i _ h (by intro z;cases z);cases o with
 |ext φ=>
  obtain⟨dx,rfl,r⟩:=h3;exact⟨dx,h2,r⟩
 |_=>exact False.elim h3
theorem aEQ{tab:List (Str×Bool)}{nn:Option Bool}{ta:TE}{f:EF}{cv:V}{c:Value}(hc:ClV cv c)(ht:∀p∈tab,XC K (aS K p.1)/\PySem.W.kitOne K (.ref (aS K p.1)) c=some p.2)(hn:∀b,nn=some b->PySem.W.kitOne K (.type "NoneType") c=some b)
 (a:SE K ta f):SE K (tCB (aAL K) (pH ta (pH (tC cv) QX))) (uN tab nn f):=by
 sleep 0;sleep 3;sleep 1;cases y with
 |t _=>cases hh
 |f _=>cases hh
 |c i=>
  dsimp only at hh;cases e:M1[i]? with
  |none=>rw[e]at hh;cases hh
  |some cl=>
   rw[e]at hh;cases cl with
   |exc fr nm fs=>
    obtain⟨b,h2,hh⟩:=aG (show(tab.lookup nm).bind _=_ from hh);cases hh;obtain⟨h3,h4⟩:=ht (nm,b) (E6 h2);obtain⟨dx,h5,h6⟩:=G1.excAt e;exact⟨v,cv,c,b,rfl,hc,k _ W1 H1 e1 G1 rfl,.inr ⟨_,_,dx,fr,r1.2,h5,h6.ok G1.fh,h3,h4⟩⟩
   |_=>cases hh
 |d y=>
  cases y with
  |none=>
   obtain⟨b,h2,hh⟩:=aG (show nn.bind _=_ from hh);cases hh;exact⟨v,cv,c,b,rfl,hc,k _ W1 H1 e1 G1 rfl,.inl ⟨r1,hn b h2⟩⟩
  |_=>cases hh
end
section
variable{ι:Type}{K:Fg}{X:ι->Cx}{a:Expr}{f:EF}{pos:Pos}
theorem qD{y:Str}{C:Addr}(hm:∀i,(X i).mg y=some (.ref C))(hg:∀i,Gl (X i) y:=by intro _;rfl)(hd:(y==("__debug__":Str))=false:=by decide):∀i p',PE (X i) (.Name y p') (tC (.ref C)):=fun i _=>TM (hg i) (hm i) rfl hd
theorem aEY{y:Str}{T:String}(hm:∀i,(X i).mg y=none)(hb:bootBuiltins y=some (.type T))(hg:∀i,Gl (X i) y:=by intro _;rfl)(hn:y≠"__name__":=by decide)(hd:(y==("__debug__":Str))=false:=by decide):∀i p',PE (X i) (.Name y p') (tC (.ty T)):=fun i _=>xP (v:=.ty T) (hg i) (hm i) hb rfl hn hd
theorem iS{y:Str}{p p':Pos}{tab:List (Str×Bool)}{nn:Option Bool}{cv:V}{c:Value}(hK:∀i,(X i).K=K)(hc:ClV cv c)(hy:∀i p',PE (X i) (.Name y p') (tC cv))(ht:∀p∈tab,XC K (aS K p.1)/\PySem.W.kitOne K (.ref (aS K p.1)) c=some p.2)(hn:∀b,nn=some b->PySem.W.kitOne K (.type "NoneType") c=some b)
 (x:ME K X a f) (hs:PQ a [.Name y p']) (hm:∀i,(X i).mg "isinstance"=none) (hg:∀i,Gl (X i) "isinstance":=by intro _;rfl):ME K X (.Call (.Name "isinstance" p) [a,.Name y p'] [] pos) (uN tab nn f):=by
 sleep 2;exact⟨_,fun i=>sP (aJh (hK i)) (hg i) (hm i) boot_isinstance (hZ (x1 i) (hZ (hy i _) yV aY) (hs _)) (by decide) (by decide) (hs _) (mG aY tZ),aEQ hc ht hn x2⟩
end
noncomputable def wH(h:FX)(f:AF):EF:=fun γ M=>(f γ M).bind fun r=>(h r.1 r.2).bind fun q=>match q.1 with
 |.v x=>some (x,q.2)
 |.x _=>none
noncomputable def noX:St->XK:=fun _ _ _ _=>False
section
variable{X:Cx}{K:Fg}
theorem aBs{k:Nat}{x:Str}{ps:List Str}{sp:Sp}{p pos:Pos}{e:Expr}{es:List Expr}{t:TA}(C:nD X.prog X.w X.K X.mg X.base k x ps sp)(hr:cB k X.A)(ha:PA X (e::es) t)(hg:Gl X x)
 (hdb:(x==("__debug__":Str))=false) (he:starEach (e::es) X.env=(false,eval e X.env)::starEach es X.env) (hpl:(backTo pos (starEach es X.env)).any (·.1)=false):
 PE X (.Call (.Name x p) (e::es) [] pos) (JO sp noX t):=by
 obtain⟨f,fd,F,m,kp,b⟩:=C.ex
 exact RZ (dvs:=[]) (E:=noX []) F hr hg m kp b .nil (fun _ _ _ _ _ _ _ h=>by obtain⟨_,_,_,_,_,_,_,_,_,_,_,_,_,z⟩:=h;exact z.elim) ha hdb he hpl |> fun h pins s σ H Q I hq=>h pins s σ H Q I (by
  show t σ H fun vs H1=>sp (vs++[]) H1 Q (noX []);simpa only[List.append_nil]using hq)
theorem WI{h:FX}{tA:TA}{fa:AF}(a:SA K tA fa):SE K (JO (spX K h) noX tA) (wH h fa):=by
 sleep 0;obtain⟨⟨xs,M1⟩,h1,hh⟩:=aG hh;obtain⟨⟨r,M2⟩,h2,hh⟩:=aG hh;refine a _ _ _ _ h1 W H σ _ G R fun vs W1 H1 e1 G1 r1=>?_;refine⟨xs,M1,W1,r,M2,G1,r1,h2,fun W2 H2 e2 G2=>?_⟩;cases r with
 |x e=>cases hh
 |v y=>cases hh;exact fun v rv=>k v W2 H2 (e1.trans e2) G2 rv
end
theorem uB{ι:Type}{X:ι->Cx}{e:Expr}{es:List Expr}{fa:AF}{pos:Pos}{k:Nat}{x:Str}{ps:List Str}{F:FX}{p:Pos}(C:∀i,nD (X i).prog (X i).w (X i).K (X i).mg (X i).base k x ps (spX K F))(hr:∀i,cB k (X i).A)(y:MA K X (e::es) fa)(hg:∀i,Gl (X i) x:=by intro _;rfl)(hd:(x==("__debug__":Str))=false:=by decide):
 ME K X (.Call (.Name x p) (e::es) [] pos) (wH F fa):=by
 obtain⟨u,y1,y2⟩:=y.ex;exact⟨_,fun i=>aBs (C i) (hr i) (y1 i) (hg i) hd (y.st.1 _) (y.st.2.plain _ _),WI y2⟩
theorem qZ:bootBuiltins "ValueError"=some (.type "ValueError"):=by decide +kernel
section
variable{K:Fg}{cv:Value}{a:Str}{b:Bool}{l:List (Str×Bool)}
theorem EJ:∀p∈([]:List (Str×Bool)),PySem.W.exmOne K (.ref (aS K p.1)) cv=some p.2:=fun _ h=>absurd h (by simp)
theorem gJ(h:PySem.W.exmOne K (.ref (aS K a)) cv=some b)(r:∀p∈l,PySem.W.exmOne K (.ref (aS K p.1)) cv=some p.2):∀p∈(a,b)::l,PySem.W.exmOne K (.ref (aS K p.1)) cv=some p.2:=fun p hp=>by
 rcases List.mem_cons.mp hp with rfl|z
 .exact h
 .exact r p z
theorem jB{b:Bool}(h:PySem.W.kitOne K (.type "NoneType") cv=some b):∀c,some b=some c->PySem.W.kitOne K (.type "NoneType") cv=some c:=fun c e=>by cases e;exact h
theorem qC{nm:Str}{C:Addr}(h:PySem.W.nsIn K mainGlobals nm=some (some (.ref C))):aS K nm=C:=by unfold aS;rw[h]
end
mutual
noncomputable def snap:Nat->Sto->CD->Option PyData
 |_,_,.d x=>some x
 |0,_,.c _=>none
 |n+1,M,.c i=>match M[i]? with
  |some (.lst xs)=>(cM n M xs).bind fun ds=>some (.list ds)
  |_=>none
 |_,_,.f _=>none
 |0,_,.t _=>none
 |n+1,M,.t xs=>(cM n M (xs.map cdA)).bind fun ds=>some (.tuple ds)
noncomputable def cM:Nat->Sto->List CD->Option (List PyData)
 |_,_,[]=>some []
 |n,M,x::xs=>(snap n M x).bind fun d=>(cM n M xs).bind fun ds=>some (d::ds)
end
section
variable{K:Fg}{W:Wd}{M:Sto}{H:Hp}
theorem Good.lstAt'(G:Good K W M H){i:Nat}{xs:List CD}(h:M[i]?=some (.lst xs)):∃vs,H (W.α i)=some (.lst vs)/\bU K W xs vs:=by
 obtain⟨_,o,h2,h3⟩:=G.cs i _ h (by intro z;cases z);cases o with
 |lst vs=>exact⟨vs,h2,h3⟩
 |_=>exact False.elim h3
mutual
theorem pF(G:Good K W M H):∀(n:Nat)(x:CD)(d:PyData)(v:V),snap n M x=some d->cF K W x v->Rep K H d v
 |0,.d x=>fun d v h r=>by unfold snap at h;cases h;exact Rep.same G.fh _ _ r
 |n+1,.d x=>fun d v h r=>by unfold snap at h;cases h;exact Rep.same G.fh _ _ r
 |0,.c i=>fun d v h r=>by unfold snap at h;cases h
 |n+1,.c i=>fun d v h r=>by
  unfold snap at h;cases e:M[i]? with
  |none=>rw[e]at h;cases h
  |some c=>
   rw[e]at h;cases c with
   |lst xs=>
    obtain⟨ds,h1,h⟩:=aG (show(cM n M xs).bind _=_ from h);cases h;obtain⟨vs,h2,h3⟩:=G.lstAt' e;exact⟨W.α i,vs,r.2,SqL.of h2,yP G n xs ds vs h1 h3⟩
   |_=>cases h
 |0,.f xs=>fun d v h r=>by unfold snap at h;cases h
 |n+1,.f xs=>fun d v h r=>by unfold snap at h;cases h
 |0,.t xs=>fun d v h r=>by unfold snap at h;cases h
 |n+1,.t xs=>fun d v h r=>by
  unfold snap at h;obtain⟨ds,h1,h⟩:=aG h;cases h;obtain⟨a,vs,rfl,h2,h3⟩:=r;exact⟨a,vs,rfl,SqT.of (G.fh _ _ h2),yP G n _ ds vs h1 (RV h3)⟩
theorem yP(G:Good K W M H):∀(n:Nat)(xs:List CD)(ds:List PyData)(vs:List V),cM n M xs=some ds->bU K W xs vs->aJ K H ds vs
 |_,[]=>fun ds vs h r=>by
  unfold cM at h;cases h;cases r;rfl
 |n,x::xs=>fun ds vs h r=>by
  unfold cM at h;obtain⟨d,h1,h⟩:=aG h;obtain⟨es,h2,h⟩:=aG h;cases h;cases r with
  |@cons _ v _ vs' r1 r2=>exact⟨v,vs',rfl,pF G n x d v h1 r1,yP G n xs es vs' h2 r2⟩
end
end
noncomputable def gW:FN:=fun xs M=>match xs with
 |[x]=>(snap 5 M x).bind fun d=>if tV d=true then some (.d (.str d.shown),M)else none
 |_=>none
theorem eP{n:Nat}{x:PyData}:snap n M (.d x)=some x:=by cases n<;>simp only[snap]
theorem IM{x:PyData}:gW [.d x] M=SL [.d x] M:=by unfold gW SL;dsimp only;rw[eP];rfl
theorem ZZ:PN K (aFD K) gW:=by
 intro xs M z M' h W H vs Q G r k;unfold gW at h;split at h
 .rename_i x;obtain⟨d,h1,h⟩:=aG h;by_cases hs:tV d=true
  .rw[A3 hs]at h;cases h;sleep 12;have hs':=hs;unfold tV at hs;rw[B4,B4]at hs;exact⟨_,d,rfl,pF G 5 x d _ h1 r1,hs.1.1,C3 hs.1.2,C3 hs.2,k _ W H (.refl _) G rfl⟩
  .rw[A5 hs]at h;cases h
 .cases h
theorem lC{ι:Type}{X:ι->Cx}(hK:∀i,(X i).K=K)(hg:∀i,(X i).A.guards=some [])(hu:∀i,(X i).A.units+200<cLine):QN K X (.builtin "repr") gW:=⟨_,fun i=>aJo (hK i) (hg i) (hu i),ZZ⟩
open PySem PySem.Spec PyProof.Rows PySem.Builtin PySem.Builtin.ObjectAttr
noncomputable def aAp:List Value->Bool
 |.ref _::r=>aAp r
 |l=>l==bmV
theorem EM(self:Value):∀{l:List Value},aAp l=true->refuseLoop self "__setattr__" l=pure ()/\l.contains (.type "object")=true/\l.isEmpty=false
 |[]=>fun e=>absurd e (by decide)
 |.ref c::r=>fun e=>by
  obtain⟨h1,h2,_⟩:=EM self (l:=r) e;exact⟨by rw[refuseLoop_ref];exact h1,by rw[List.contains_cons,h2,Bool.or_true],rfl⟩
 |.none::r=>fun e=>absurd (beq_iff_eq.mp (show((.none::r:List Value)==bmV)=true from e)) (by intro z;cases z)
 |.bool b::r=>fun e=>absurd (beq_iff_eq.mp (show((.bool b::r:List Value)==bmV)=true from e)) (by intro z;cases z)
 |.int b t::r=>fun e=>absurd (beq_iff_eq.mp (show((.int b t::r:List Value)==bmV)=true from e)) (by intro z;cases z)
 |.type n::r=>fun e=>by
  have q:(.type n::r:List Value)=bmV:=beq_iff_eq.mp (show((.type n::r:List Value)==bmV)=true from e);rw[q];exact⟨PySem.F.store_ValueError.passes self,by decide,rfl⟩
 |v::r=>fun e=>by
  cases v with
  |ref c=>
   obtain⟨h1,h2,_⟩:=EM self (l:=r) e;exact⟨by rw[refuseLoop_ref];exact h1,by rw[List.contains_cons,h2,Bool.or_true],rfl⟩
  |type n=>
   have q:(.type n::r:List Value)=bmV:=beq_iff_eq.mp (show((.type n::r:List Value)==bmV)=true from e);rw[q];exact⟨PySem.F.store_ValueError.passes self,by decide,rfl⟩
  |_=>exact absurd (beq_iff_eq.mp e) (by intro z;cases z)
noncomputable def RS(K:Fg)(C:Addr):Bool:=(PySem.W.clsIn K C).any fun cd=>aAp cd.mro
section
variable{prog:Program}{w:World}{A:Around}{E:Value->Shared->Prop}{s:Shared}{K:Fg}{x C:Addr}{ox:Obj}{name:Str}{v:Value}
theorem aCB{vs:Array Value}{Q:Unit->Shared->Prop}(X:K.In s.heap)(I:PySem.W.InstAt s.heap x ox C none)(hv:ox.data=.fields vs)(hs:PySem.W.findIn K (.ref C) "__setattr__"=some (some (.builtin "object.__setattr__")))(hp:RS K C=true)(ht:PySem.W.takerIn K C name=some none)(hh:PySem.W.hasDictIn K C=true)
 (h:∀h',h'.get? x=some { ox with dict:=some s.heap.objs.size }->h'.Ns1 s.heap.objs.size (fun y=>if y=name then some v else none)->(∀b o,b≠x->s.heap.get? b=some o->h'.get? b=some o)->Q () { s with heap:=h',toks:=s.toks+2 }):
 wpAny (model prog w) A (setAttr (.ref x) name v) Q E s:=by
 refine PySem.W.set_plain X I hs ?_;have SF:=PySem.F.store_object;obtain⟨cd,hc,ho⟩:=PySem.W.any_some hp;obtain⟨o1,o2,o3⟩:=EM (.ref x) ho;have sub:PySem.W.Looks (model prog w) s.heap (isInstance (.ref x) (.type "object")) true:=I.type.andThen (PySem.W.looks_mroIn X (by unfold PySem.W.mroIn;rw[hc,A1,A5 (by rw[o3];decide),o2]));refine codeAny_call_builtin SF.slot.plain SF.entry (@PySem.W.check_slot (model prog w) _ _ { s with toks:=s.toks+1 } "object.__setattr__" "object" "__setattr__" (.ref x) [.str name s.toks,v] [] _ SF.kind SF.split sub (SF.args (.ref x) (.str name s.toks) v) ?_);obtain⟨attr,ha,hr⟩:=Option.bind_eq_some_iff.mp ht;have hm:PySem.W.Looks (model prog w) s.heap (mroOf (.ref C)) cd.mro:=(PySem.W.looks_clsIn X hc).andThen .now
 have L3:PySem.W.Looks (model prog w) s.heap (storeTaker? attr) none:=by
  cases attr with
  |none=>cases hr;exact .now
  |some a=>
   obtain⟨b,hb,e⟩:=Option.map_eq_some_iff.mp hr;refine(PySem.W.looks_takesIn X hb).andThen ?_;cases b
   .exact .now
   .cases e
 rw[PySem.W.osa_eq,refuse_eq];have k0:∀b o,s.heap.get? b=some o->({ s with toks:=s.toks+1 }:Shared).heap.get? b=some o:=fun _ _ z=>z;refine A0 (A0 (J8 (s:={ s with toks:=s.toks+1 }) I.type (A0 (J8 (s:={ s with toks:=s.toks+1 }) hm ?_))));rw[o1];refine A6 (A0 (J8 (s:={ s with toks:=s.toks+1 }) I.type (A0 (J8 (s:={ s with toks:=s.toks+1 }) (S3 X ha) (A0 (J8 (s:={ s with toks:=s.toks+1 }) L3 ?_))))));obtain⟨cd',hc',hd'⟩:=PySem.W.any_some hh
 have dn:ox.dict=none:=by
  have:=I.dict;cases q:ox.dict with
  |none=>rfl
  |some d=>rw[q]at this;exact this.elim
 have hx:=I.at_;have hcl:=I.cls;obtain⟨oc,odi,oda,osl⟩:=ox;dsimp only at hcl dn hv;subst hcl dn hv;refine A0 (A6 (A0 (A0 (wpAny_loadPart hx (A0 (J8 (s:={ s with toks:=s.toks+1 }) (PySem.W.looks_clsIn X hc') ?_))))));rw[hd'];rw[A5 (by decide)];show wpAny _ _ (if (!true || !typeHasDict (.ref C))=true then pure none else _) _ _ _;rw[A5 (by simp[typeHasDict])];have x1:(s.heap.push { cls:=.type "dict",data:=.dict #[] }).get? x=some ⟨.ref C,none,.fields vs,osl⟩:=A2 _ hx;have xs:x≠s.heap.objs.size:=B6 (B0 hx);refine A0 (wpAny_alloc' ?_);refine A0 (wpAny_update' x1 ?_);refine A6 ?_;generalize hg:(s.heap.push { cls:=.type "dict",data:=.dict #[] }).update x (fun o=>{ cls:=o.cls,dict:=some s.heap.objs.size,data:=o.data,slots:=o.slots })=g1
 have gd:g1.get? s.heap.objs.size=some { cls:=.type "dict",data:=.dict #[] }:=by
  rw[<- hg];exact(D9 _ _ xs).trans (B7 s.heap rfl)
 have gn:g1.Ns s.heap.objs.size (fun _=>none):=⟨_,#[],_,gd,rfl,fun e he=>absurd he (by simp),fun _=>rfl⟩;show wpAny _ _ (storeInDict s.heap.objs.size (.str name s.toks) name v) _ _ _;unfold storeInDict newKeyGuard;refine A0 (A6 (A0 (wpAny_nsSet1 (Heap.Ns1.of_empty gn) fun h' hn' hs'=>?_)));obtain⟨oD,esD,epD,hoD,hdD,hcD⟩:=hn'.count (PySem.Within.cons name v PySem.Within.nil);refine A0 (wpAny_lookBehind hoD (by rw[hdD];exact pastItsLine_dict (C8 hcD (by rw[C0,O6,E1];omega))) ?_);refine A6 ?_;refine h h' ?_ hn' fun b o hb q=>?_
 .rw[hs'.2 x xs,<- hg];exact F8 _ x1 rfl
 .rw[hs'.2 b (B6 (B0 q)),<- hg,D9 _ _ (F4 hb)];exact A2 _ q
end
end L2
namespace L2
variable{H:Hp}{W:Wd}{M:Sto}
open PySem PySem.Spec PyProof.Rows
noncomputable def DP(K:Fg)(C:Addr):Bool:=match K.lookup C with
 |some ⟨.type "type",_,.cls cd,sl⟩=>(match cd.mro,sl.toList with
  |.ref C'::bm,[_,_,_,_,some (.builtin n),_]=>C'==C&&n=="ValueError.__new__"&&!cd.hasDel&&PySem.W.tailIn K bmV bm
  |_,_=>false)
 |_=>false
theorem EN{K:Fg}{h:Heap}{C:Addr}(X:K.In h)(q:DP K C=true):
 ∃bm N nm qn bs hd sn sub ab col dd k0 k1 k2 k3 k5,h.get? C=some (excClassObj nm qn C N bs bm hd sn sub ab col dd k0 k1 k2 k3 k5 "ValueError.__new__")/\OwnTail h bmV bm:=by
 unfold DP at q;split at q
 case h_2=>cases q
 case h_1 dd cd sl lk=>
  split at q
  case h_2=>cases q
  case h_1 C' bm k0 k1 k2 k3 n k5 hm hs=>
   simp only[Bool.and_eq_true,beq_iff_eq,Bool.not_eq_true']at q;obtain⟨⟨⟨q1,q2⟩,q3⟩,q4⟩:=q;subst q1 q2;cases cd with
   |mk nm bs mro ns qn hd sn sub ab col del=>
    cases hm;cases q3
    have es:sl=#[k0,k1,k2,k3,some (.builtin "ValueError.__new__"),k5]:=by
     cases sl with
     |mk l=>exact O2 Array.mk hs
    cases es;exact⟨bm,ns,nm,qn,bs,hd,sn,sub,ab,col,dd,k0,k1,k2,k3,k5,X _ _ lk,PySem.W.tail_of_in X q4⟩
section
variable{prog:Program}{w:World}{A:Around}{E:Value->Shared->Prop}{K:Fg}{C f:Addr}
theorem aEr{h:Heap}{g:Array GenState}{d:Drawn}{t:Nat}{os:OsState}{us:List Value}{Q:Fin->Shared->Prop}(X:K.In h)(q:DP K C=true)(hi:PySem.W.findIn K (.ref C) "__init__"=some (some (.ref f)))(hf:PySem.W.typeIn K (.ref f)=some (.type "function"))(hl:us.length<=sizeLine)
 (hq:∀h' e,Heap.MadeExcOf h h' e (.ref C) us->wpAny (model prog w) A (call (.ref f) (.ref e::us)) (fun r s'=>r=.none/\Q (.done (.ret (.ref e))) s') E ⟨h',g,d,t,os⟩):
 wpAny (model prog w) A (Builtin.«type.__call__» ⟨.ref C::us,[]⟩) Q E ⟨h,g,d,t,os⟩:=by
 obtain⟨bm,N,nm,qn,bs,hd,sn,sub,ab,col,dd,k0,k1,k2,k3,k5,hC,T⟩:=EN X q;have F:=PySem.F.excBase_ValueError
 repeat (first|(with_reducible refine wpAny_loadPart_at hC ?_)|(with_reducible refine wpAny_madeBy_exc hC ?_)|wp_step)
 refine codeAny_call_builtin_code (Code.quiet_builtin _ F.quiet) (wpAny_check_new_subT F T hC (codeAny_exc_new_subT F T hC ?_ hl));show wpAny _ _ _ _ _ _;have kp:∀b o,h.get? b=some o->((h.push { cls:=.type "tuple",data:=.seq us.toArray }).push { cls:=.ref C,data:=.fields #[.ref h.objs.size,.none,.none,.none,.bool false,.none] }).get? b=some o:=fun b o z=>A2 _ (A2 _ z)
 have he:((h.push { cls:=.type "tuple",data:=.seq us.toArray }).push { cls:=.ref C,data:=.fields #[.ref h.objs.size,.none,.none,.none,.bool false,.none] }).get? (h.objs.size+1)=some { cls:=.ref C,data:=.fields #[.ref h.objs.size,.none,.none,.none,.bool false,.none] }:=by
  have:=B7 (h.push { cls:=.type "tuple",data:=.seq us.toArray }) (o:={ cls:=.ref C,data:=.fields #[.ref h.objs.size,.none,.none,.none,.bool false,.none] }) rfl
  rwa [O4]at this
 have ht:((h.push { cls:=.type "tuple",data:=.seq us.toArray }).push { cls:=.ref C,data:=.fields #[.ref h.objs.size,.none,.none,.none,.bool false,.none] }).get? h.objs.size=some { cls:=.type "tuple",data:=.seq us.toArray }:=A2 _ (B7 h rfl);have cC:(Value.ref C::bm).contains (.ref C)=true:=by simp
 have hC1:=kp _ _ hC;have L1:=S3 (M:=model prog w) (X.keeps kp) hi;have L2:=PySem.W.bind_fn (M:=model prog w) (X.keeps kp) (.ref (h.objs.size+1)) hf;unfold isInstance
 repeat (first|(with_reducible refine wpAny_loadPart_at he ?_)|(with_reducible refine wpAny_isSubtype_exc hC1 ?_;rw[cC])|wp_step)
 show wpAny _ _ (typeLookup (.ref C) _) _ _ _;refine L1.at ?_;refine E2 (A0 (L2.at ?_));refine A0 (D8 (hq _ (h.objs.size+1) ⟨kp,S9 (Nat.le_succ _),h.objs.size,he,S9 (A7 _),ht⟩) (fun r s' z=>?_) fun _ _ z=>z);obtain⟨rfl,z⟩:=z
 wp_walk
 exact z
theorem VZ{s:Shared}{us:List Value}{Q:Value->Shared->Prop}(X:K.In s.heap)(q:DP K C=true)(hi:PySem.W.findIn K (.ref C) "__init__"=some (some (.ref f)))(hf:PySem.W.typeIn K (.ref f)=some (.type "function"))(hl:us.length<=sizeLine)
 (hq:∀h' e,Heap.MadeExcOf s.heap h' e (.ref C) us->wpAny (model prog w) (A.under (.builtin "type.__call__" ⟨.ref C::us,[]⟩)) (call (.ref f) (.ref e::us)) (fun r s'=>r=.none/\Q (.ref e) s') E { s with heap:=h' }):
 wpAny (model prog w) A (call (.ref C) us) Q E s:=by
 obtain⟨bm,N,nm,qn,bs,hd,sn,sub,ab,col,dd,k0,k1,k2,k3,k5,hC,T⟩:=EN X q;obtain⟨h,g,d,t,os⟩:=s;have f1:=tc_lookup;have f2:=tc_bind (.ref C);have hT:(⟨h,g,d,t,os⟩:Shared).TypeIs (.ref C) "type":=⟨_,hC,rfl⟩;refine Z5 (codeAny_of_tree ?_);show wpAny _ _ (callAny (.ref C) ⟨us,[]⟩) _ _ _
 repeat (any_goals (first|assumption|(with_reducible refine wpAny_loadPart_at hC ?_)|wp_step))
 refine⟨rfl,?_⟩;refine codeAny_call_builtin_at (Code.quiet_builtin _ (by decide +kernel)) entry_typeCall (wpAny_check_type_call_sub hC (aEr (f:=f) X q hi hf hl fun h' e mk=>?_));exact hq h' e mk
end
noncomputable def unt(H:Hp)(e:Addr):Hp:=fun b=>if b=e then none else H b
theorem qO{a b:Addr}(h:b≠a):unt H a b=H b:=by unfold unt;rw[A5 h]
theorem DO{a:Addr}:unt H a a=none:=by unfold unt;rw[A3 rfl]
section
variable{X:Cx}{pins:List (Addr×Obj)}{σ:St}{H:Hp}{s:Shared}
theorem Inv.untrack{e:Addr}{φ:Heap->Prop}(I:Inv X pins σ H s)(he:H e=some (.ext φ)):Inv X pins σ (unt H e) s:=by
 have up:∀b,H b=none->unt H e b=none:=fun b q=>by
  by_cases z:b=e
  .rw[z,DO]
  .rw[qO z];exact q
 have ne:∀b u,H b=some u->(∀ψ,u≠.ext ψ)->b≠e:=fun b u q n z=>by
  rw[z,he]at q;cases q;exact n φ rfl
 refine⟨I.ok,I.os,I.bare,⟨I.base.keep,I.base.slot,fun b o q n hx=>up b (I.base.free b o q n hx),I.base.there,fun b xs q=>?_,fun b o u q=>?_,fun b ps q=>?_⟩,I.loc,I.cell,up _ I.free,fun x c q=>up _ (I.freeC x c q),fun p h=>?_,fun b u q=>?_,I.len⟩
 .have:=I.base.tups b xs q;rw[qO (ne _ _ this fun _ z=>by cases z)];exact this
 .have:=I.base.frzs b o u q;rw[qO (ne _ _ this fun _ z=>by cases z)];exact this
 .obtain⟨more,this⟩:=I.base.tbls b ps q;exact⟨more,by rw[qO (ne _ _ this fun _ z=>by cases z)];exact this⟩
 .obtain⟨q1,q2,q3⟩:=I.pin p h;exact⟨q1,up _ q2,q3⟩
 .have hb:b≠e:=fun z=>by rw[z,DO]at q;cases q
  rw[qO hb]at q;exact(I.hok b u q).stay (fun _ _ _ z=>z) (fun c z=>by rw[qO (ne _ _ z fun _ w=>by cases w)];exact z) fun c xs z=>by rw[qO (ne _ _ z fun _ w=>by cases w)];exact z
structure wQ(K:Fg)(C:Addr)(f:Str):Prop where
 sa:PySem.W.findIn K (.ref C) "__setattr__"=some (some (.builtin "object.__setattr__"))
 ov:RS K C=true
 tk:PySem.W.takerIn K C f=some none
 hd:PySem.W.hasDictIn K C=true
 na:PySem.W.findIn K (.ref C) f=some none
theorem aDW{A:Around}{E:Value->Shared->Prop}{a C:Addr}{f:Str}{y:V}{u:Value}{Q:Unit->Shared->Prop}(I:Inv X pins σ H s)(e:H a=some (.ext (oQ a (.ref C) none true)))(c:wQ X.K C f)(ry:RelV y u)
 (h:∀d s',H d=none->d≠a->Inv X pins σ (upd (upd H d (.xd [(f,y)])) a (.ext (oQ a (.ref C) (some d) true))) s'->Q () s'):wpAny (model X.prog X.w) A (setAttr (.ref a) f u) Q E s:=by
 obtain⟨⟨o,vs,h1,h2,h3,h4,h5⟩,_⟩:=I.hok a _ e;obtain⟨z1,z2⟩:=h5 rfl
 have no:PySem.W.notCls o=true:=by
  obtain⟨_,_,dt,_⟩:=o;cases h4;rfl
 have hn:H s.heap.objs.size=none:=I.hok.fresh (A7 _);have hne:s.heap.objs.size≠a:=F7 (B0 h1);refine aCB I.kIn ⟨h1,h2,no,by rw[h3];exact True.intro⟩ h4 c.sa c.ov c.tk c.hd fun h' q1 q2 q3=>h s.heap.objs.size _ hn hne ?_;have hda:∀b w,H b=some w->b≠s.heap.objs.size:=fun b w z=>aQ z hn;refine I.un (t':=s.toks+2) ⟨fun b ob z n _ _=>?_,fun b ob z n _ _=>?_,fun b ob z n _=>?_,fun b ob z _=>?_,fun b xs z=>?_,fun b ob w z=>?_,fun b ps z=>?_⟩ fun b w z=>?_
 .exact q3 b ob (fun w=>by rw[w,e]at n;cases n) z
 .exact⟨ob.slots,q3 b ob (fun w=>by rw[w,e]at n;cases n) z⟩
 .rw[aL (fun w=>by rw[w,e]at n;cases n),aL (B6 (B0 z))];exact n
 .by_cases w:b=a
  .rw[w];exact⟨_,q1⟩
  .exact⟨ob,q3 b ob w z⟩
 .rw[aL (zW z e (by intro w;cases w)),aL (hda _ _ z)];exact z
 .rw[aL (zW z e (by intro w;cases w)),aL (hda _ _ z)];exact z
 .exact⟨#[],by rw[aL (zW z e (by intro w;cases w)),aL (hda _ _ z),z];simp⟩
 .by_cases hb:b=a
  .subst hb;rw[aR]at z;cases z;exact⟨⟨_,vs,q1,h2,rfl,h4,h5⟩,⟨_,q1⟩,fun g1 g2 ⟨o',ws,k1,k2⟩ kk=>⟨o',ws,kk o' k1,k2⟩⟩
  .rw[aL hb]at z;by_cases hd:b=s.heap.objs.size
   .subst hd;rw[aR]at z;cases z;refine⟨_,q2,fun g=>?_⟩;show yA (List.lookup g [(f,y)]) (if g=f then some u else none);by_cases gf:g=f
    .rw[A3 gf,gf,D1,beq_self_eq_true];exact ry
    .rw[A5 gf,D1,beq_eq_false_iff_ne.mpr gf];exact True.intro
   .rw[aL hd]at z;refine(I.hok b w z).stay (fun c v hc r=>q3 c v ?_ r) (fun c r=>?_) fun c xs r=>?_
    .rcases hc with rfl|hc
     .exact hb
     .exact zW hc e (by intro w;cases w)
    .rw[aL (zW r e (by intro w;cases w)),aL (hda _ _ r)];exact r
    .rw[aL (zW r e (by intro w;cases w)),aL (hda _ _ r)];exact r
theorem aEz{A:Around}{E:Value->Shared->Prop}{a C d:Addr}{f:Str}{fr b:Bool}{us:List (Str×V)}{v:V}{Q:Value->Shared->Prop}(I:Inv X pins σ H s)(e:H a=some (.ext (oQ a (.ref C) (some d) fr)))(hd:H d=some (.xd us))(c:wJ X.K C)(cs:wQ X.K C f)(l:us.lookup f=some v)
 (h:∀u s',Inv X pins σ H s'->RelV v u->Q u s'):wpAny (model X.prog X.w) A (getAttr (.ref a) f b) Q E s:=by
 obtain⟨⟨o,vs,h1,h2,h3,h4,h5⟩,_⟩:=I.hok a _ e;obtain⟨mA,n1,r⟩:=(show dM X.prog X.w H s.heap d (.xd us)from I.hok d _ hd);obtain⟨u,hu,ru⟩:=yA.some_of (v:=v) (o:=mA f) (by rw[<- l];exact r f);obtain⟨od,ho,hl⟩:=HP n1
 have no:PySem.W.notCls o=true:=by
  obtain⟨_,_,dt,_⟩:=o;cases h4;rfl
 have J:PySem.W.InstAt s.heap a o C (some od):=⟨h1,h2,no,by rw[h3];exact ho⟩;exact aDJ I.kIn J c (PySem.W.findObj_own cs.hd cs.na rfl (by rw[hl,hu])) (HM ru) (h u _ (I.tok _) ru)
theorem Inv.newX{C e:Addr}{us:List Value}{h':Heap}(I:Inv X pins σ H s)(mk:Heap.MadeExcOf s.heap h' e (.ref C) us):H e=none/\Inv X pins σ (upd H e (.ext (oQ e (.ref C) none true))) { s with heap:=h' }:=by
 have hn:H e=none:=by
  cases z:H e with
  |none=>rfl
  |some u=>
   obtain⟨o,z'⟩:=(I.hok e u z).there;rw[mk.new]at z';cases z'
 obtain⟨t,he,_,_⟩:=mk.there;refine⟨hn,I.un (t':=s.toks) ⟨fun b o q _ _ _=>mk.keeps b o q,fun b o q _ _ _=>⟨o.slots,mk.keeps b o q⟩,fun b o q n _=>?_,fun b o q _=>⟨o,mk.keeps b o q⟩,fun b xs q=>?_,fun b o u q=>?_,fun b ps q=>?_⟩ fun b u q=>?_⟩
 .rw[aL (fun z=>by rw[z,mk.new]at q;cases q)];exact n
 .rw[aL (aQ q hn)];exact q
 .rw[aL (aQ q hn)];exact q
 .exact⟨#[],by rw[aL (aQ q hn),q];simp⟩
 .by_cases hb:b=e
  .subst hb;rw[aR]at q;cases q;exact⟨⟨_,_,he,rfl,rfl,rfl,fun _=>⟨by show 1<6;decide,rfl⟩⟩,⟨_,he⟩,fun g1 g2 ⟨o',ws,k1,k2⟩ kk=>⟨o',ws,kk o' k1,k2⟩⟩
  .rw[aL hb]at q;exact(I.hok b u q).stay (fun c v _ r=>mk.keeps c v r) (fun c r=>by rw[aL (aQ r hn)];exact r) fun c xs r=>by rw[aL (aQ r hn)];exact r
end
section
variable{X:Cx}{C f:Addr}{x:Str}{p pos:Pos}{k:Nat}{fd:FuncData}{ps:List Str}{sp:Sp}{e:Expr}{es:List Expr}{t:TA}
structure MkX(K:Fg)(C f:Addr):Prop where
 ex:DP K C=true
 init:PySem.W.findIn K (.ref C) "__init__"=some (some (.ref f))
 fn:PySem.W.isFn K (.ref f)=true
 kp:PySem.W.keepIn K (.ref C)=true
noncomputable def RE(C:Addr)(sp:Sp)(t:TA):TE:=fun σ H Q=>t σ H fun vs H1=>vs.length<=sizeLine/\∀a,H1 a=none->sp (.ref a::vs) (upd H1 a (.ext (oQ a (.ref C) none true))) (fun v H2=>v=.non/\Q (.ref a) H2) E0
theorem WT{pins:List (Addr×Obj)}{σ:St}{s:Shared}{Q:VK}{us:List Value}{vs:List V}(M:MkX X.K C f)(F:jF X.prog X.w X.K X.mg X.base CX0 k f fd ps sp)(hr:cB (k+1) X.A)(hb:Binds X.K fd ps [])(I:Inv X pins σ H s)(r:bK vs us)
 (hl:vs.length<=sizeLine) (h:∀a,H a=none->sp (.ref a::vs) (upd H a (.ext (oQ a (.ref C) none true))) (fun v H2=>v=.non/\Q (.ref a) H2) E0):
 wpAny (model X.prog X.w) X.A (call (.ref C) us) (fun v s'=>∃a H',v=.ref a/\Inv X pins σ H' s'/\(X.ex=[]->X.s₀.heap.get? a=none)/\Q (.ref a) H') X.xe s:=by
 refine VZ I.kIn M.ex M.init (beq_iff_eq.mp M.fn) (by rw[<- r.length];exact hl) fun h' a mk=>?_;obtain⟨h1,I2⟩:=I.newX mk;have hq:=h a h1;have r2:bK (V.ref a::vs) (Value.ref a::us):=.cons rfl r
 have hlen:(Value.ref a::us).length=ps.length:=by
  have e:=r2.length;rw[F.len _ _ _ _ hq]at e;exact e.symm
 have b:=hb { s with heap:=h' } (Value.ref a::us) I2.kIn (by rw[C5];exact hlen);rw[C5]at b;refine Z5 (U2 (F.run _ X.stack _ _ ⟨Value.ref a::us,[]⟩ (Value.ref a::us) _ _ E0 (hr.make C us []) (I2.env0.make C us []) b r2 hq) fun rr s' hq'=>?_);cases rr with
 |error e=>exact False.elim hq'
 |ok fl=>
  cases fl with
  |ret u=>
   obtain⟨v,H',I3,rv,ev,q3⟩:=I2.after hq';subst ev
   have nw:X.ex=[]->X.s₀.heap.get? a=none:=fun hx=>by
    cases z:X.s₀.heap.get? a with
    |none=>rfl
    |some o=>
     obtain⟨o1,z1⟩:=I.base.there a o z (by rw[hx];simp);rw[mk.new]at z1;cases z1
   exact⟨rv,a,H',rfl,I3,nw,q3⟩
  |next=>exact False.elim hq'
  |brk=>exact False.elim hq'
  |cont=>exact False.elim hq'
theorem WR(M:MkX X.K C f)(F:jF X.prog X.w X.K X.mg X.base CX0 k f fd ps sp)(hr:cB (k+1) X.A)(hg:Gl X x)(hm:X.mg x=some (.ref C))(hb:Binds X.K fd ps [])
 (ha:PA X (e::es) t) (hdb:(x==("__debug__":Str))=false) (he:starEach (e::es) X.env=(false,eval e X.env)::starEach es X.env) (hpl:(backTo pos (starEach es X.env)).any (·.1)=false)
 {pins:List (Addr×Obj)} {s:Shared} {σ:St} {H:Hp} {Q:VK} (I:Inv X pins σ H s) (h:RE C sp t σ H Q):
 wpAny (model X.prog X.w) X.A (eval (.Call (.Name x p) (e::es) [] pos) X.env) (fun v s'=>∃a H',v=.ref a/\Inv X pins σ H' s'/\(X.ex=[]->X.s₀.heap.get? a=none)/\Q (.ref a) H') X.xe s:=by
 refine J2 (mM I hg hm ?_ hdb);exact U3 (h₀:=X.base) I.ok.mod.kin M.kp (thn (ha pos pins s σ H _ I h) fun us s1 ⟨vs,H1,I1,r,hl,q⟩=>⟨I1.kIn,WT M F hr hb I1 r hl q⟩) he hpl
end
theorem aDG{prog:Program}{w:World}{A:Around}{E:Value->Shared->Prop}{s:Shared}{env:Env}{e:Expr}{pos:Pos}{K:Fg}{C:Addr}{Q:Flow->Shared->Prop}(hh:A.handled=none)(q:DP K C=true)(be:PySem.W.subIn K (.ref C) (.type "BaseException")=some true)
 (h:wpAny (model prog w) A (eval e env) (fun v s1=>∃a oe vs,v=.ref a/\K.In s1.heap/\s1.heap.get? a=some oe/\oe.cls=.ref C/\oe.data=.fields vs/\vs[1]?=some .none/\E (.ref a) s1) E s):
 wpAny (model prog w) A (exec (.Raise (some e) none pos) env) Q E s:=by
 show wpAny (model prog w) A (do standAt pos;raiseStmt env (some (do let v <- eval e env;standAt pos;pure v)) none) Q E s;refine A0 (S4 ?_);unfold raiseStmt;dsimp only;refine A0 (A0 (D8 h (fun v s1 z=>A0 (S4 (A6 ?_))) fun _ _ z=>z));obtain⟨a,oe,vs,rfl,X,he,hc,hv,h1,hE⟩:=z;have LT:PySem.W.Looks (model prog w) s1.heap (typeOf (.ref a)) (.ref C):=hc▸(PySem.W.Looks.ld he).andThen .now;have LS:=PySem.W.looks_subIn (M:=model prog w) X be;obtain⟨bm,N,nm,qn,bs,hd,sn,sub,ab,col,dd,k0,k1,k2,k3,k5,hC,_⟩:=EN X q;have LC:PySem.W.Looks (model prog w) s1.heap (typeOf (.ref C)) (.type "type"):=(PySem.W.Looks.ld hC).andThen .now
 have nt:∀{Q':Bool->Shared->Prop},Q' false s1->wpAny (model prog w) A (isType (.ref a)) Q' E s1:=fun{Q'} z=>by
  simp only[isType,loadHead];refine A0 (wpAny_loadPart he ?_);rw[hv];exact A6 z
 refine A0 (A6 ?_);dsimp only;refine A0 (E2 ?_);unfold excFromValue isExcClass;refine A0 (A0 (nt ?_));simp only[Bool.false_eq_true,if_false];refine A6 ?_;simp only[Bool.false_eq_true,if_false];unfold isInstance;refine A0 (A0 (LT.here (LS.here ?_)));simp only[if_true];refine A6 ?_;refine A0 (nt ?_);simp only[Bool.false_eq_true,if_false];unfold raisedInstance;refine A0 (A0 (LT.here (A0 (LC.here ?_))));rw[A3 (by decide)];refine A6 ?_;unfold setFlight;refine A0 (A0 (E7 he hv h1 ?_));rw[A5 (by decide)];exact A6 (wpAny_raiseNew_none hh hE)
section
variable{X:Cx}{C f:Addr}{x:Str}{p cpos pos:Pos}{k:Nat}{fd:FuncData}{ps:List Str}{sp:Sp}{e:Expr}{es:List Expr}{t:TA}
noncomputable def KI(EE:St->XK)(C:Addr)(sp:Sp)(t:TA):TS:=fun _ σ H=>RE C sp t σ H fun v H1=>∃a dx,v=.ref a/\H1 a=some (.ext (oQ a (.ref C) dx true))/\EE σ (.ref C) dx (unt H1 a)
theorem WY{EE:St->XK}(ok:XOk X EE)(hc:X.calm=true)(M:MkX X.K C f)(be:PySem.W.subIn X.K (.ref C) (.type "BaseException")=some true)(F:jF X.prog X.w X.K X.mg X.base CX0 k f fd ps sp)(hr:cB (k+1) X.A)(hg:Gl X x)(hm:X.mg x=some (.ref C))(hb:Binds X.K fd ps [])
 (ha:PA X (e::es) t) (hdb:(x==("__debug__":Str))=false) (he:starEach (e::es) X.env=(false,eval e X.env)::starEach es X.env) (hpl:(backTo cpos (starEach es X.env)).any (·.1)=false):
 PS X (.Raise (some (.Call (.Name x p) (e::es) [] cpos)) none pos) (KI EE C sp t):=by
 sleep 19;refine aDG (I.ok.hd hc) M.ex be ?_;refine D8 (WR (X:=X) (p:=p) (pos:=cpos) M F hr hg hm hb ha hdb he hpl I h) (fun v s1 ⟨a',H1,ev,I1,new,a,dx,ex,ea,q⟩=>?_) fun _ _ z=>z;obtain rfl:a'=a:=V.ref.inj ex;subst ev;obtain⟨⟨o,vs,h1,h2,h3,h4,h5⟩,_⟩:=I1.hok a' _ ea;obtain⟨z1,z2⟩:=h5 rfl;have I2:Inv X [] σ (unt H1 a') s1:=(I1.untrack ea).pins_of fun p hp=>absurd hp (by simp);refine⟨a',o,vs,rfl,I1.kIn,h1,h2,h4,z2,ok.pass _ _ (XW ok.bd I2 h1 DO (new ok.bd.ex) (fun p hp z=>?_) h4 z1 z2 (by rw[h2,h3];exact q))⟩
 .have:=(I1.pin p (F0 _ hp)).2.1;rw[z,ea]at this;cases this
end
section
variable{X:Cx}{o value e:Expr}{ta tv:TE}{f:Str}{pos pos':Pos}
noncomputable def aCf(K:Fg)(ta tv:TE)(f:Str):TS:=fun D σ H=>tv σ H fun y H1=>ta σ H1 fun x H2=>∃a C,x=.ref a/\H2 a=some (.ext (oQ a (.ref C) none true))/\wQ K C f/\∀d,H2 d=none->d≠a->D.nx σ (upd (upd H2 d (.xd [(f,y)])) a (.ext (oQ a (.ref C) (some d) true)))
theorem aEo(ha:PE X o ta)(hv:PE X value tv)(hs:swapsWith value (some (.Attribute o f pos')) pos.line X.env=pure false):PS X (.Assign [.Attribute o f pos'] value pos) (aCf X.K ta tv f):=by
 sleep 19;refine plainObj_wpAny_Assign_Attribute (thn (hv pins s σ H _ I h) fun u s1 ⟨y,H1,I1,ry,q⟩=>thn (ha pins s1 σ H1 _ I1 q) fun ov s2 ⟨x,H2,I2,rx,a,C,ex,ea,c,q2⟩=>?_) hs;subst ex;obtain rfl:ov=Value.ref a:=rx;exact aDW I2 ea c ry fun d s3 hd hne I3=>⟨σ,_,I3,q2 d hd hne⟩
noncomputable def aFE(K:Fg)(ta:TE)(f:Str):TE:=fun σ H Q=>ta σ H fun x H1=>∃a C d fr us v,x=.ref a/\H1 a=some (.ext (oQ a (.ref C) (some d) fr))/\H1 d=some (.xd us)/\wJ K C/\wQ K C f/\us.lookup f=some v/\Q v H1
theorem aEm(he:PE X e ta)(hb:attributeBase e f X.env (eval e X.env)=eval e X.env):PE X (.Attribute e f pos) (aFE X.K ta f):=by
 sleep 10;refine TR hb (thn (he pins s σ H _ I h) fun u s1 ⟨x,H1,I1,rx,a,C,d,fr,us,v,ex,ea,hd,c,n,l,q⟩=>?_);subst ex;obtain rfl:u=Value.ref a:=rx;exact aEz I1 ea hd c n l fun u' s2 I2 ru=>⟨v,H1,I2,ru,q⟩
end
noncomputable def HV(nm:Str)(h:FN)(fa:AF):EF:=fun γ M=>(fa γ M).bind fun r=>if r.1.length<=sizeLine then(h (.c r.2.length::r.1) (r.2++[.exc true nm []])).bind fun q=>if uO q.1=true then some (.c r.2.length,q.2)else none else none
noncomputable def excOf(M:Sto):CD->Option (Nat×Bool×Str×List (Str×CD))
 |.c i=>match M[i]? with
  |some (.exc fr nm fs)=>some (i,fr,nm,fs)
  |_=>none
 |_=>none
theorem EG{x:CD}{i:Nat}{fr:Bool}{nm:Str}{fs:List (Str×CD)}(h:excOf M x=some (i,fr,nm,fs)):x=.c i/\M[i]?=some (.exc fr nm fs):=by
 unfold excOf at h;split at h
 .rename_i j;split at h
  .rename_i a b c e;cases h;exact⟨rfl,e⟩
  .cases h
 .cases h
noncomputable def yC(nm f:Str)(eo ev:EF):SF:=fun γ M=>(ev γ M).bind fun v=>(eo γ v.2).bind fun o=>(excOf o.2 o.1).bind fun p=>if p.2.1=true/\p.2.2.1=nm/\p.2.2.2.isEmpty=true then some (.nx γ,o.2.set p.1 (.exc true nm [(f,v.1)]))else none
noncomputable def HB(nms:List Str)(f:Str)(e:EF):EF:=fun γ M=>(e γ M).bind fun r=>(excOf r.2 r.1).bind fun p=>if p.2.2.1∈nms then(p.2.2.2.lookup f).bind fun v=>some (v,r.2)else none
noncomputable def jS(nm:Str)(h:FN)(fa:AF):SFX:=fun γ M=>(HV nm h fa γ M).bind fun r=>(excOf r.2 r.1).bind fun p=>if p.2.1=true/\p.2.2.1=nm then some (.xc γ ⟨nm,p.2.2.2⟩,r.2.set p.1 .dead)else none
section
variable{K:Fg}{EE:St->XK}{ta tv:TE}{tA:TA}
theorem aAk{nm:Str}{h:FN}{fa:AF}(b:SA K tA fa):SE K (RE (aS K nm) (spM K h) tA) (HV nm h fa):=by
 sleep 0;sleep 6
 have hl:ys.length<=sizeLine:=by
  by_cases z:ys.length<=sizeLine
  .exact z
  .rw[A5 z]at hh;cases hh
 rw[A3 hl]at hh;obtain⟨⟨z,M2⟩,h2,hh⟩:=aG hh
 have hz:uO z=true:=by
  cases q:uO z with
  |true=>rfl
  |false=>rw[q]at hh;cases hh
 rw[A3 hz]at hh;cases hh;have hz':=BK hz;subst hz';refine b _ _ _ _ h1 W H σ _ G R fun vs W1 H1 e1 G1 r1=>⟨by rw[<- Paired.len r1];exact hl,fun a ha=>?_⟩;have Gb:=G1.new ha (c:=.exc true nm []) (o:=.ext (oQ a (.ref (aS K nm)) none true)) ⟨none,rfl,rfl⟩;have e2:=W1.ext_more a;refine⟨.c M1.length::ys,M1++[.exc true nm []],W1.more a,.d .none,M2,Gb,.cons G1.newV (bU.up r1 e2),h2,fun v W3 H3 e3 G3 r3=>⟨r3,?_⟩⟩;exact k _ W3 H3 ((e1.trans e2).trans e3) G3 (G1.newV.up e3)
theorem aCH{nm f:Str}{eo ev:EF}(c:wQ K (aS K nm) f)(a:SE K ta eo)(b:SE K tv ev):SS K (aCf K ta tv f) (yC nm f eo ev):=by
 sleep 5;sleep 3;obtain⟨⟨z,M2⟩,h2,hh⟩:=aG hh;obtain⟨⟨i,fr,nm',fs⟩,h3,hh⟩:=aG hh;by_cases hc:fr=true/\nm'=nm/\fs.isEmpty=true
 .have hh:(if fr=true/\nm'=nm/\fs.isEmpty=true then some (Out.nx γ,M2.set i (.exc true nm [(f,y)]))else none)=some (o,M'):=hh;rw[A3 hc]at hh;cases hh;obtain⟨rfl,rfl,q⟩:=hc;have q:fs=[]:=by cases fs with|nil=>rfl|cons _ _=>cases q
  subst q;refine b _ _ _ _ h1 W H σ _ G R fun v W1 H1 e1 G1 r1=>?_;refine a _ _ _ _ h2 W1 H1 σ _ G1 (R.up e1) fun u W2 H2 e2 G2 r2=>?_;obtain⟨rfl,hM⟩:=EG h3;obtain⟨dx,hH,hx⟩:=G2.excAt hM;cases dx with
  |some d=>
   exact absurd rfl hx.1
  |none=>
   refine⟨W2.α i,_,r2.2,hH,c,fun d hd hne=>?_⟩;obtain⟨e3,G3⟩:=G2.lay (o:=.xd [(f,v)]) hd;have e23:=(e1.trans e2).trans e3;refine k _ _ e23 (G3.set hM (by intro q;cases q) (c':=.exc true nm' [(f,y)]) (o':=.ext (oQ (W2.α i) (.ref (aS K nm')) (some d) true)) ⟨some d,rfl,by simp,[(f,v)],aR,.cons ⟨rfl,(r1.up e2).up e3⟩ .nil⟩) σ (R.up e23)
 .have hh:(if fr=true/\nm'=nm/\fs.isEmpty=true then some (Out.nx γ,M2.set i (.exc true nm [(f,y)]))else none)=some (o,M'):=hh;rw[A5 hc]at hh;cases hh
theorem aEf{nms:List Str}{f:Str}{e:EF}(c:∀nm∈nms,wJ K (aS K nm)/\wQ K (aS K nm) f)(a:SE K ta e):SE K (aFE K ta f) (HB nms f e):=by
 sleep 0;sleep 3;obtain⟨⟨i,fr,nm,fs⟩,h2,hh⟩:=aG hh;by_cases hn:nm∈nms
 .have hh:(if nm∈nms then(fs.lookup f).bind fun v=>some (v,M1)else none)=some (x,M'):=hh;rw[A3 hn]at hh;obtain⟨v,h3,hh⟩:=aG hh;cases hh;refine a _ _ _ _ h1 W H σ _ G R fun u W1 H1 e1 G1 r1=>?_;obtain⟨rfl,hM⟩:=EG h2;obtain⟨dx,hH,hx⟩:=G1.excAt hM;cases dx with
  |none=>rw[show fs=[]from hx]at h3;cases h3
  |some d=>
   obtain⟨_,us,w1,w2⟩:=hx;obtain⟨w,hw,rw'⟩:=tU w2 h3;exact⟨_,_,d,fr,us,w,r1.2,hH,G1.fh _ _ w1,(c nm hn).1,(c nm hn).2,hw,k w W1 H1 e1 G1 rw'⟩
 .have hh:(if nm∈nms then(fs.lookup f).bind fun v=>some (v,M1)else none)=some (x,M'):=hh;rw[A5 hn]at hh;cases hh
theorem Good.kill(g:Good K W M H){i:Nat}{c:Cell}(hi:M[i]?=some c)(hc:c≠.dead):Good K W (M.set i .dead) (unt H (W.α i)):=by
 obtain⟨h1,o,h2,h3⟩:=g.cs i c hi hc;have lt:i<M.length:=(List.getElem?_eq_some_iff.mp hi).1
 have at_:∀j d,(M.set i .dead)[j]?=some d->d≠.dead->j≠i/\M[j]?=some d:=fun j d h hd=>by
  by_cases q:i=j
  .subst q;rw[E3 lt]at h;exact absurd (D2 h).symm hd
  .rw[D4 q]at h;exact⟨fun z=>q z.symm,h⟩
 refine⟨fun b u hb=>?_,by rw[g.n,U1],fun j d hj hd=>?_,fun j k d1 d2 hj hk e1 e2 he=>?_⟩
 .rw[qO (fun z=>by rw[z,h1]at hb;cases hb)];exact g.fh b u hb
 .obtain⟨q,h⟩:=at_ j d hj hd;obtain⟨k1,u,k2,k3⟩:=g.cs j d h hd;exact⟨k1,u,by rw[qO fun z=>q (g.inj j i d c h hi hd hc z)];exact k2,k3⟩
 .exact g.inj j k d1 d2 (at_ j d1 hj e1).2 (at_ k d2 hk e2).2 e1 e2 he
theorem OV{nm:Str}{h:FN}{fa:AF}(b:SA K tA fa):SSX K EE (KI EE (aS K nm) (spM K h) tA) (jS nm h fa):=by
 sleep 5;obtain⟨⟨x,M1⟩,h1,hh⟩:=aG hh;obtain⟨⟨i,fr,nm',fs⟩,h2,hh⟩:=aG hh;by_cases hc:fr=true/\nm'=nm
 .have hh:(if fr=true/\nm'=nm then some (XM.xc γ ⟨nm,fs⟩,M1.set i .dead)else none)=some (o,M'):=hh;rw[A3 hc]at hh;cases hh;obtain⟨rfl,rfl⟩:=hc;refine aAk b _ _ _ _ h1 W H σ _ G R fun v W1 H1 e1 G1 r1=>?_;obtain⟨rfl,hM⟩:=EG h2;obtain⟨dx,hH,hx⟩:=G1.excAt hM;exact⟨_,dx,r1.2,hH,k W1 _ e1 (G1.kill hM (by intro q;cases q)) σ _ dx (R.up e1) ⟨rfl,hx⟩⟩
 .have hh:(if fr=true/\nm'=nm then some (XM.xc γ ⟨nm,fs⟩,M1.set i .dead)else none)=some (o,M'):=hh;rw[A5 hc]at hh;cases hh
end
structure xU(P:Program)(w:World)(K:Fg)(mg:Str->Option Value)(base:Heap)(k:Nat)(nm:Str)(ps:List Str)(sp:Sp):Prop where
 ex:∃f fd,jF P w K mg base CX0 k f fd ps sp/\MkX K (aS K nm) f/\Binds K fd ps []
section
variable{P:Program}{w:World}{K:Fg}{mg:Str->Option Value}{base:Heap}
theorem KO.okIX{nm qual:Str}{st:Stmt}{N ps:List Str}{k:Nat}{b:SF}(D:KO K nm "__init__" qual st)(hm:DP K (aS K nm)=true)(hk:PySem.W.keepIn K (.ref (aS K nm))=true)(S:aT N ps (aH st))
 (hb:∀(kV doc pm:Value)(an:Option Addr)(cdv ct:Value)(us:List Value),us.length=ps.length->bindArgs (PySem.W.fnOf "__init__" qual (dW st) (bQ st) (aH st) .none kV doc pm an cdv ct) ⟨us,[]⟩=pure (ps.zip us))
 (hbody:∀(f:Addr)(cdv:Value)(A:Around)(outer:List Env)(s:Shared)(H:Hp)(E:XK),cB k (A.deeper (envOfC qual (aH st) s.heap.objs.size f cdv))->
  ML K (fun _:Unit=>(nR CX0 P w K mg base N qual (aH st) f cdv A outer s H E).nox) (bQ st) b):xU P w K mg base (k+1) nm ps (spM K (fnF ps.length N.length b)):=by
 obtain⟨f,fd,F,h1,h2⟩:=D.ex;exact⟨f,fd,F.okQ S hbody,⟨hm,h1,h2,hk⟩,F.binds hb⟩
theorem JT{nm m qual:Str}{st:Stmt}{C f:Addr}{oc:Value}{od an:Option Addr}{osl:Array (Option Value)}{kV doc pm cdv ct:Value}(hC:aS K nm=C)(hf:PySem.W.findIn K (.ref C) m=some (some (.ref f)))
 (l:K.lookup f=some ⟨oc,od,.func (PySem.W.fnOf m qual (dW st) (bQ st) (aH st) .none kV doc pm an cdv ct),osl⟩) (c:PySem.W.codeIn K cdv qual=true) (k:PySem.W.keepIn K (.ref f)=true) (fn:PySem.W.isFn K (.ref f)=true):KO K nm m qual st:=
 ⟨f,_,aAR l c k,by rw[hC];exact hf,fn⟩
end
section
variable{ι:Type}{K:Fg}{X:ι->Cx}{EE:ι->St->XK}{e o a b:Expr}{es:List Expr}{f g:EF}{fa:AF}{pos:Pos}
theorem qI{k:Nat}{nm:Str}{ps:List Str}{F:FN}{p cpos:Pos}(ok:∀i,XOk (X i) (EE i))(C:∀i,xU (X i).prog (X i).w (X i).K (X i).mg (X i).base k nm ps (spM K F))(hK:∀i,(X i).K=K)(hc:∀i,(X i).calm=true)(hm:∀i,(X i).mg nm=some (.ref (aS K nm)))(be:PySem.W.subIn K (.ref (aS K nm)) (.type "BaseException")=some true)
 (hr:∀i,cB (k+1) (X i).A) (y:MA K X (e::es) fa) (hg:∀i,Gl (X i) nm:=by intro _;rfl) (hd:(nm==("__debug__":Str))=false:=by decide):
 MSX K X EE (.Raise (some (.Call (.Name nm p) (e::es) [] cpos)) none pos) (jS nm F fa):=by
 obtain⟨u,y1,y2⟩:=y.ex;refine⟨fun i=>KI (EE i) (aS K nm) (spM K F) u,fun i=>?_,fun i=>OV y2⟩;obtain⟨f,fd,F',M,B⟩:=(C i).ex;have hmi:(X i).mg nm=some (.ref (aS (X i).K nm)):=by rw[hK i];exact hm i
 have:=WY (ok i) (hc i) M (by rw[hK i];exact be) F' (hr i) (hg i) hmi B (y1 i) hd (y.st.1 _) (y.st.2.plain _ _) (p:=p) (cpos:=cpos) (pos:=pos);rw[hK i]at this;exact this
theorem SV{nm fl:Str}{pos':Pos}(hK:∀i,(X i).K=K)(hc:wQ K (aS K nm) fl)(x:ME K X o f)(y:ME K X e g)(hs:∀i,swapsWith e (some (.Attribute o fl pos')) pos.line (X i).env=pure false:=by intro _;rfl):MS K X (.Assign [.Attribute o fl pos'] e pos) (yC nm fl f g):=by
 sleep 4;refine⟨_,fun i=>?_,aCH hc x2 y2⟩;have:=aEo (x1 i) (y1 i) (hs i);rw[hK i]at this;exact this
theorem TQ{nms:List Str}{fl:Str}(hK:∀i,(X i).K=K)(hc:∀nm∈nms,wJ K (aS K nm)/\wQ K (aS K nm) fl)(x:ME K X o f)(hb:∀env:Env,attributeBase o fl env (eval o env)=eval o env:=by intro _;rfl):ME K X (.Attribute o fl pos) (HB nms fl f):=by
 sleep 2;refine⟨_,fun i=>?_,aEf hc x2⟩;have:=aEm (x1 i) (hb _) (pos:=pos);rw[hK i]at this;exact this
theorem NW{fl:Str}:∀nm∈([]:List Str),wJ K (aS K nm)/\wQ K (aS K nm) fl:=fun _ h=>absurd h (by simp)
theorem HK{fl a:Str}{l:List Str}(x:wJ K (aS K a))(h:wQ K (aS K a) fl)(r:∀nm∈l,wJ K (aS K nm)/\wQ K (aS K nm) fl):∀nm∈a::l,wJ K (aS K nm)/\wQ K (aS K nm) fl:=fun p hp=>by
 rcases List.mem_cons.mp hp with rfl|z
 .exact⟨x,h⟩
 .exact r p z
end
section
variable{K:Fg}
noncomputable def JS:F2:=fun x y M=>(qT M x).bind fun xs=>(qT M y).bind fun ys=>if xs.length+ys.length<=sizeLine then some (.c M.length,M++[.lst (xs++ys)])else none
theorem SY:P2 K (CK K) JS:=by
 sleep 11;obtain⟨xs,h1,h⟩:=aG h;obtain⟨ys,h2,h⟩:=aG h;by_cases hl:xs.length+ys.length<=sizeLine
 .rw[A3 hl]at h;cases h;obtain⟨p,vs,rfl,hp,hr⟩:=uA G h1 rx;obtain⟨q,us,rfl,hq,hs⟩:=uA G h2 ry;refine⟨p,q,vs,us,rfl,rfl,hp,hq,by rw[<- Paired.len hr,<- Paired.len hs];exact hl,fun l hl=>?_⟩;exact k _ (W.more l) _ (W.ext_more l) (G.new hl (c:=.lst (xs++ys)) (o:=.lst (vs++us)) (Paired.app hr hs)) G.newV
 .rw[A5 hl]at h;cases h
def vX:F2:=BG dP JS
theorem aDz:P2 K (fun x y H Q=>UF K x y H Q\/CK K x y H Q) vX:=P2.or TU SY
theorem aFI{ι:Type}{X:ι->Cx}(hK:∀i,(X i).K=K):Q2 K X (binaryOp .Add) vX:=⟨_,fun i=>(aKm (hK i)).or (show OpR (X i) (binaryOp .Add) (CK K)by have:=op_catS (X:=X i);rw[hK i]at this;exact this),aDz⟩
end
section
variable{K:Fg}
noncomputable def oX(K:Fg)(c:Value)(tab:List (Str×Bool)):Bool:=tab.all fun p=>match PySem.W.kitOne K (.ref (aS K p.1)) c with
 |some b=>b==p.2
 |none=>false
theorem iX{c:Value}{tab:List (Str×Bool)}{ns:List Str}(hx:∀nm∈ns,XC K (aS K nm))(h:oX K c tab=true)(e:tab.map Prod.fst=ns):∀p∈tab,XC K (aS K p.1)/\PySem.W.kitOne K (.ref (aS K p.1)) c=some p.2:=by
 intro p hp;refine⟨hx _ (by rw[<- e];exact J4 hp),?_⟩;have:=List.all_eq_true.mp h p hp;split at this
 .rename_i b hb;rw[hb,eq_of_beq this]
 .cases this
theorem aDL:∀nm∈([]:List Str),XC K (aS K nm):=fun _ h=>absurd h (by simp)
theorem CM{a:Str}{l:List Str}(x:XC K (aS K a))(r:∀nm∈l,XC K (aS K nm)):∀nm∈a::l,XC K (aS K nm):=fun p hp=>by
 rcases List.mem_cons.mp hp with rfl|z
 .exact x
 .exact r p z
end
noncomputable abbrev KY:=Key ⊕ List Key
noncomputable abbrev KF:=Ga->Sto->Option (KY×Sto)
noncomputable def XG(W:Wd):KY->V->Prop
 |.inl k,v=>v=kV k
 |.inr ks,v=>∃b,v=.ref b/\W.F b=some (.tup (ks.map kV))
theorem XG.up{W':Wd}{k:KY}{v:V}(h:XG W k v)(e:W.Ext W'):XG W' k v:=by
 cases k with
 |inl k=>exact h
 |inr ks=>obtain⟨b,h1,h2⟩:=h;exact⟨b,h1,e.ff _ _ h2⟩
section
variable{K:Fg}
noncomputable def SK(K:Fg)(t:TE)(f:KF):Prop:=∀γ M k M',f γ M=some (k,M')->∀(W:Wd)(H:Hp)(σ:St)(Q:VK),Good K W M H->cQ K W γ σ->(∀v W' H',W.Ext W'->Good K W' M' H'->XG W' k v->Q v H')->t σ H Q
noncomputable def keysOf:List CD->Option (List Key)
 |[]=>some []
 |x::xs=>(keyOf x).bind fun k=>(keysOf xs).bind fun ks=>some (k::ks)
noncomputable def EZ(fa:AF):KF:=fun γ M=>(fa γ M).bind fun r=>(keysOf r.1).bind fun ks=>if ks.length<=sizeLine then some (.inr ks,r.2)else none
variable{t td ty tx tv:TE}{tA:TA}{f fo fx fv:EF}{fk:KF}{fa:AF}
theorem DK{W:Wd}:∀{xs:List CD}{ks:List Key}{vs:List V},keysOf xs=some ks->bU K W xs vs->vs=ks.map kV
 |[],ks,vs=>fun h r=>by cases h;cases r;rfl
 |x::xs,ks,vs=>fun h r=>by
  obtain⟨k,h1,h⟩:=aG h;obtain⟨ks',h2,h⟩:=aG h;cases h;cases r with
  |cons r1 r2=>rw[HL h1 r1,DK h2 r2];rfl
theorem aHp(b:SA K tA fa):SK K (VS tA) (EZ fa):=by
 intro γ M k M' hh W H σ Q G R c;sleep 6;obtain⟨ks,h2,hh⟩:=aG hh;by_cases hl:ks.length<=sizeLine
 .rw[A3 hl]at hh;cases hh;sleep 8;have ev:=DK h2 r1;refine⟨by rw[ev,A8];exact hl,fun p hp=>?_⟩;obtain⟨e2,G2⟩:=G1.lay (o:=.tup vs) hp;exact c _ _ _ (e1.trans e2) G2 ⟨p,rfl,by show upd W1.F p (.tup vs) p=_;rw[aR,ev]⟩
 .rw[A5 hl]at hh;cases hh
section
variable{κ:Type}[DecidableEq κ]
noncomputable def lkC(kvs:List (κ×CD))(k:κ):Option CD:=(kvs.find? fun kv=>decide (kv.1=k)).map (·.2)
noncomputable def putD(kvs:List (κ×CD))(k:κ)(v:CD):List (κ×CD):=
 if (kvs.any fun kv=>decide (kv.1=k))=true then kvs.map (fun kv=>if kv.1=k then(kv.1,v)else kv)else kvs++[(k,v)]
noncomputable abbrev PKV(K:Fg)(W:Wd)(kvs:List (κ×CD))(us:List (κ×V)):Prop:=Paired (fun p q=>p.1=q.1/\cF K W p.2 q.2) kvs us
theorem IC{W:Wd}{k:κ}:∀{kvs:List (κ×CD)}{us:List (κ×V)},PKV K W kvs us->NG K W (lkC kvs k) (jN us k)
 |_,_,.nil=>True.intro
 |_,_,.cons (a:=p) (b:=q) (l₁:=ps) (l₂:=qs) r1 r2=>by
  by_cases h:p.1=k
  .have h':q.1=k:=r1.1▸h;rw[show lkC (p::ps) k=some p.2 by simp[lkC,List.find?_cons,h],show jN (q::qs) k=some q.2 by simp[jN,List.find?_cons,h']];exact r1.2
  .have h':¬q.1=k:=r1.1▸h;rw[show lkC (p::ps) k=lkC ps k by simp[lkC,List.find?_cons,h],show jN (q::qs) k=jN qs k by simp[jN,List.find?_cons,h']];exact IC r2
theorem NX{W:Wd}{k:κ}:∀{kvs:List (κ×CD)}{us:List (κ×V)},PKV K W kvs us->(kvs.any fun kv=>decide (kv.1=k))=us.any fun kv=>decide (kv.1=k)
 |_,_,.nil=>rfl
 |_,_,.cons r1 r2=>by rw[L6,L6,NX r2,r1.1]
theorem LA{W:Wd}{k:κ}{x:CD}{v:V}(rv:cF K W x v):∀{kvs:List (κ×CD)}{us:List (κ×V)},PKV K W kvs us->PKV K W (kvs.map fun kv=>if kv.1=k then(kv.1,x)else kv) (us.map fun kv=>if kv.1=k then(kv.1,v)else kv)
 |_,_,.nil=>.nil
 |_,_,.cons (a:=p) (b:=q) r1 r2=>by
  rw[C4,C4];refine .cons ?_ (LA rv r2);by_cases h:p.1=k
  .rw[A3 h,A3 (r1.1▸h)];exact⟨r1.1,rv⟩
  .rw[A5 h,A5 (r1.1▸h)];exact r1
theorem GL{k:κ}{x:CD}{v:V}{kvs:List (κ×CD)}{us:List (κ×V)}(r:PKV K W kvs us)(rv:cF K W x v):PKV K W (putD kvs k x) (putK us k v):=by
 unfold putD putK;rw[NX r];split
 .exact LA rv r
 .exact Paired.app r (.cons ⟨rfl,rv⟩ .nil)
end
noncomputable def lkP(kvs:List (List Key×PyData))(k:List Key):Option PyData:=(kvs.find? fun kv=>decide (kv.1=k)).map (·.2)
theorem KQ{W:Wd}{k:List Key}:∀{kvs:List (List Key×PyData)}{us:List (List Key×V)},Paired (fun p q=>p.1=q.1/\Rep K W.F p.2 q.2) kvs us->NG K W ((lkP kvs k).map .d) (jN us k)
 |_,_,.nil=>True.intro
 |_,_,.cons (a:=p) (b:=q) (l₁:=ps) (l₂:=qs) r1 r2=>by
  by_cases h:p.1=k
  .have h':q.1=k:=r1.1▸h;rw[show lkP (p::ps) k=some p.2 by simp[lkP,List.find?_cons,h],show jN (q::qs) k=some q.2 by simp[jN,List.find?_cons,h']];exact r1.2
  .have h':¬q.1=k:=r1.1▸h;rw[show lkP (p::ps) k=lkP ps k by simp[lkP,List.find?_cons,h],show jN (q::qs) k=jN qs k by simp[jN,List.find?_cons,h']];exact KQ r2
noncomputable def atD(M:Sto):CD->KY->Option (Option CD)
 |.c i,.inl k=>match M[i]? with
  |some (.dk kvs)=>some (lkC kvs k)
  |_=>none
 |.c i,.inr ks=>match M[i]? with
  |some (.dt kvs)=>some (lkC kvs ks)
  |_=>none
 |.f kvs,.inr ks=>some ((lkP kvs ks).map .d)
 |_,_=>none
noncomputable def NR(M:Sto):CD->KY->CD->Option Sto
 |.c i,.inl k,x=>match M[i]? with
  |some (.dk kvs)=>if kvs.length<sizeLine then some (M.set i (.dk (putD kvs k x)))else none
  |_=>none
 |.c i,.inr ks,x=>match M[i]? with
  |some (.dt kvs)=>if kvs.length<sizeLine then some (M.set i (.dt (putD kvs ks x)))else none
  |_=>none
 |_,_,_=>none
theorem Good.dkAt{i:Nat}{kvs:List (Key×CD)}(G:Good K W M H)(h:M[i]?=some (.dk kvs)):∃us,H (W.α i)=some (.dK us)/\PKV K W kvs us:=by
 obtain⟨_,o,h2,h3⟩:=G.cs i _ h (by intro z;cases z);cases o<;>first|exact⟨_,h2,h3⟩|exact False.elim h3
theorem Good.dtAt{i:Nat}{kvs:List (List Key×CD)}(G:Good K W M H)(h:M[i]?=some (.dt kvs)):∃us,H (W.α i)=some (.dT us)/\PKV K W kvs us:=by
 obtain⟨_,o,h2,h3⟩:=G.cs i _ h (by intro z;cases z);cases o<;>first|exact⟨_,h2,h3⟩|exact False.elim h3
theorem aEu{x:CD}{k:KY}{r:Option CD}{v y:V}(G:Good K W M H)(h:atD M x k=some r)(rx:cF K W x v)(ry:XG W k y):∃a o,v=.ref a/\IX H a y o/\NG K W r o:=by
 unfold atD at h;split at h
 .rename_i i k';split at h
  .rename_i kvs hk;cases h;obtain⟨us,h1,h2⟩:=G.dkAt hk;refine⟨_,_,rx.2,?_,IC h2⟩;rw[show y=kV k' from ry];exact IX.k h1
  .cases h
 .rename_i i ks;split at h
  .rename_i kvs hk;cases h;obtain⟨us,h1,h2⟩:=G.dtAt hk;obtain⟨b,rfl,hb⟩:=ry;exact⟨_,_,rx.2,IX.t h1 (G.fh _ _ hb),IC h2⟩
  .cases h
 .rename_i kvs ks;cases h;obtain⟨a,o,us,rfl,h1,h2⟩:=rx;obtain⟨b,rfl,hb⟩:=ry;exact⟨_,_,rfl,.inr ⟨us,ks,b,.inr ⟨o,G.fh _ _ h1⟩,rfl,G.fh _ _ hb,rfl⟩,KQ h2⟩
 .cases h
theorem KR{M':Sto}{x z:CD}{k:KY}{v y u:V}(G:Good K W M H)(h:NR M x k z=some M')(rx:cF K W x v)(ry:XG W k y)(rz:cF K W z u):∃a H',v=.ref a/\DR H a y u H'/\Good K W M' H':=by
 unfold NR at h;split at h
 .rename_i z' i k';split at h
  .rename_i kvs hk;by_cases hl:kvs.length<sizeLine
   .rw[A3 hl]at h;cases h;obtain⟨us,h1,h2⟩:=G.dkAt hk;refine⟨_,_,rx.2,?_,G.set hk (by intro q;cases q) (o':=.dK (putK us k' u)) (GL h2 rz)⟩;rw[show y=kV k' from ry];exact DR.k h1 (by rw[<- Paired.len h2];exact hl)
   .rw[A5 hl]at h;cases h
  .cases h
 .rename_i z' i ks;split at h
  .rename_i kvs hk;by_cases hl:kvs.length<sizeLine
   .rw[A3 hl]at h;cases h;obtain⟨us,h1,h2⟩:=G.dtAt hk;obtain⟨b,rfl,hb⟩:=ry;exact⟨_,_,rx.2,DR.t h1 (G.fh _ _ hb) (by rw[<- Paired.len h2];exact hl),G.set hk (by intro q;cases q) (o':=.dT (putK us ks u)) (GL h2 rz)⟩
   .rw[A5 hl]at h;cases h
  .cases h
 .cases h
noncomputable def BB:EF:=fun _ M=>some (.c M.length,M++[.dt []])
noncomputable def aBC(neg:Bool)(fk:KF)(fo:EF):EF:=fun γ M=>(fk γ M).bind fun k=>(fo γ k.2).bind fun o=>(atD o.2 o.1 k.1).bind fun r=>some (.d (.bool (if neg then !r.isSome else r.isSome)),o.2)
noncomputable def JN(fo:EF)(fk:KF)(fv:EF):SF:=fun γ M=>(fv γ M).bind fun v=>(fo γ v.2).bind fun o=>(fk γ o.2).bind fun k=>(NR k.2 o.1 k.1 v.1).bind fun M'=>some (.nx γ,M')
theorem aBp:SE K aAr BB:=by
 sleep 0;cases hh;exact fun p hp=>k _ (W.more p) _ (W.ext_more p) (G.new hp (c:=.dt []) (o:=.dT []) .nil) G.newV
theorem XE{r:Option CD}{o:Option V}(h:NG K W r o):o.isSome=r.isSome:=by
 cases r<;>cases o<;>first|rfl|exact False.elim h
theorem aGH(b:SK K ty fk)(a:SE K td fo):SE K (aJP ty td) (aBC false fk fo):=by
 sleep 0;obtain⟨⟨ky,M1⟩,h1,hh⟩:=aG hh;obtain⟨⟨o,M2⟩,h2,hh⟩:=aG hh;obtain⟨r,h3,hh⟩:=aG hh;cases hh;refine b _ _ _ _ h1 W H σ _ G R fun y W1 H1 e1 G1 r1=>a _ _ _ _ h2 W1 H1 σ _ G1 (R.up e1) fun v W2 H2 e2 G2 r2=>?_;obtain⟨p,ov,ev,g,ro⟩:=aEu G2 h3 r2 (r1.up e2);refine⟨p,ov,ev,g,k _ W2 H2 (e1.trans e2) G2 ?_⟩;show _=V.bl r.isSome;rw[XE ro]
theorem aDR(a:SE K td fo)(b:SK K ty fk)(c:SE K tv fv):SS K (aEV td ty tv) (JN fo fk fv):=by
 sleep 5;obtain⟨⟨z,M1⟩,h1,hh⟩:=aG hh;obtain⟨⟨x,M2⟩,h2,hh⟩:=aG hh;obtain⟨⟨ky,M3⟩,h3,hh⟩:=aG hh;obtain⟨M4,h4,hh⟩:=aG hh;cases hh;refine c _ _ _ _ h1 W H σ _ G R fun u W1 H1 e1 G1 r1=>a _ _ _ _ h2 W1 H1 σ _ G1 (R.up e1) fun v W2 H2 e2 G2 r2=>b _ _ _ _ h3 W2 H2 σ _ G2 (R.up (e1.trans e2)) fun y W3 H3 e3 G3 r3=>?_;obtain⟨p,H4,ev,g,G4⟩:=KR G3 h4 (r2.up e3) r3 ((r1.up e2).up e3);exact⟨p,H4,ev,g,k W3 H4 ((e1.trans e2).trans e3) G4 σ (R.up ((e1.trans e2).trans e3))⟩
end
section
variable{ι:Type}
structure MK(K:Fg)(X:ι->Cx)(e:Expr)(f:KF):Prop where
 ex:∃t,(∀i,PE (X i) e t)/\SK K t f
variable{K:Fg}{X:ι->Cx}{e o i a b:Expr}{es:List Expr}{f g fx:EF}{fk:KF}{fa:AF}{pos:Pos}
theorem QM{k:Nat}(x:MA K X es fa):MK K X (.Tuple es k pos) (EZ fa):=by
 sleep 2;exact⟨_,fun i=>BP (x1 i),aHp x2⟩
theorem aBe:ME K X (.Dict [] [] pos) BB:=⟨_,fun _=>YR,aBp⟩
theorem aIy(hu:∀j,(X j).A.units+1<cLine)(y:MK K X i fk)(x:ME K X o f)(hm:behindInMarks .In o=false:=by rfl):MT K X (.Compare i [.In] [o] pos) (gB (aBC false fk f)):=by
 sleep 4;exact⟨_,fun j=>aGV (aGg (hu j) (y1 j) (x1 j)) hm,aGf (aGH y2 x2)⟩
theorem aDc{pos':Pos}(hu:∀j,(X j).A.units+1<cLine)(x:ME K X o f)(y:MK K X i fk)(z:ME K X e g)(hs:∀j,swapsWith e (some (.Subscript o i pos')) pos.line (X j).env=pure false:=by intro _;rfl):MS K X (.Assign [.Subscript o i pos'] e pos) (JN f fk g):=by
 sleep 7;exact⟨_,fun j=>aCV (hu j) (x1 j) (y1 j) (z1 j) (hs j),aDR x2 y2 z2⟩
end
end L2
namespace PySem
open Sem (wp)
open AutoSeq1 (wpAny_loadPart')
section
variable{prog:Program}{w:World}{A:Around}{E:Value->Shared->Prop}{s:Shared}
theorem FH{it l:Addr}{i:Nat}{items}{x:Value}{Q:Value->Shared->Prop}(hit:s.heap.IsTupleIter it l i)(hl:s.heap.IsTuple l items)(hx:items[i]?=some x)
 (hQ:∀h',h'.IsTupleIter it l (i+1)->Heap.SameBut it s.heap h'->Q x { s with heap:=h' }):wpAny (model prog w) A (Builtin.SmallTypes.nextOf (.ref it)) Q E s:=by
 obtain⟨o,ho,hc,hd⟩:=id hit;obtain⟨ol,hol,_,nl,hdl⟩:=hl;unfold Builtin.SmallTypes.nextOf;refine A0 (O5 (name:=Str.ofString "__next__") hit.typeIs U0 (J3 U0 hit.typeIs F.entry_tuple_iterator_next ?_ (F.args_tuple_iterator_next_1 _)));show wpAny _ _ (field (.ref it) 0 >>= _) _ _ s;refine A0 (E7 ho hd (x:=.ref l) rfl ?_);show wpAny _ _ (if (Value.ref l==Value.none)=true then _ else _) _ _ s;rw[A5 (show ¬((Value.ref l==Value.none)=true)from A4)];show wpAny _ _ (field (.ref it) 1 >>= _) _ _ s;refine A0 (E7 ho hd (x:=.int i 0) rfl ?_);show wpAny _ _ (seqItems? (.ref l) >>= _) _ _ s;refine A0 (wpAny_seqItems hol hdl ?_);simp only[Int.toNat_natCast,hx];refine A0 (U9 ho hd (by simp) (A6 ⟨x,rfl,A6 (hQ _ ?_ (Heap.SameBut.update ..))⟩));exact⟨_,F8 _ ho (Obj.isFreed_of_fields (S0 hd _)),(Obj.cls_mapFields ..).trans hc,by rw[S0 hd];simp[rawInt]⟩
theorem yF{it l:Addr}{i:Nat}{items}{Q:Value->Shared->Prop}(hh:A.handled=none)(hit:s.heap.IsTupleIter it l i)(hl:s.heap.IsTuple l items)(hx:items[i]?=none)
 (hE:∀h' e,Heap.ExtBut it s.heap h'->(∃o,h'.get? e=some o/\o.cls=.type "StopIteration")->E (.ref e) { s with heap:=h' }):wpAny (model prog w) A (Builtin.SmallTypes.nextOf (.ref it)) Q E s:=by
 obtain⟨o,ho,hc,hd⟩:=id hit;obtain⟨ol,hol,_,nl,hdl⟩:=hl;unfold Builtin.SmallTypes.nextOf;refine A0 (O5 (name:=Str.ofString "__next__") hit.typeIs U0 (J3 U0 hit.typeIs F.entry_tuple_iterator_next ?_ (F.args_tuple_iterator_next_1 _)));show wpAny _ _ (field (.ref it) 0 >>= _) _ _ s;refine A0 (E7 ho hd (x:=.ref l) rfl ?_);show wpAny _ _ (if (Value.ref l==Value.none)=true then _ else _) _ _ s;rw[A5 (show ¬((Value.ref l==Value.none)=true)from A4)];show wpAny _ _ (field (.ref it) 1 >>= _) _ _ s;refine A0 (E7 ho hd (x:=.int i 0) rfl ?_);show wpAny _ _ (seqItems? (.ref l) >>= _) _ _ s;refine A0 (wpAny_seqItems hol hdl ?_);simp only[Int.toNat_natCast,hx];refine A0 (wpAny_rule (A0 (U9 ho hd (by simp) ?_)));show wpAny _ _ (newExc (.type "StopIteration") [] >>= _) _ _ _;refine A0 ?_;simp only[newExc,newTuple];refine A0 (D7 ?_ (by size_fits));refine A0 (m:=firstArgMember _ _) (wpAny_of_eq (a:=Value.none) (by first|rfl|(simp only[firstArgMember];rfl)) ?_);refine D7 ?_ (by size_fits);simp only[raiseNew];refine A0 (wpAny_handled ?_)
 first|rw[show A.in1.handled=none from hh]|rw[hh]
 refine A0 (A6 (wpAny_throw ?_));exact hE _ _ (((Heap.SameBut.update ..).extBut.push _).push _) ⟨_,B7 _ rfl,rfl⟩
end
theorem UV{prog:Program}{w:World}{A:Around}(hh:A.handled=none)(it l:Addr)(hne:l≠it)(items:Array Value):
 Draws prog w A it [it,l] items.size (fun i v=>items[i]?=some v) (fun i h=>h.IsTupleIter it l i/\h.IsTuple l items) where
 live:=fun _ _ st=>let⟨o,ho,_⟩:=st.1;⟨o,ho⟩
 frame:=fun _ _ _ st hk=>⟨st.1.at fun o e=>hk it (by simp) o e,let⟨o,ho,r⟩:=st.2;⟨o,hk l (by simp) o ho,r⟩⟩
 item:=fun i s Q E hi st hQ=>by
  refine FH st.1 st.2 (x:=items[i]) (by simp[hi]) fun h' hit' hs'=>?_;exact hQ _ h' s.toks (by simp[hi]) ⟨hit',let⟨o,ho,r⟩:=st.2;⟨o,(hs'.2 l hne).trans ho,r⟩⟩ hs'
 done:=fun s Q E st hE=>yF hh st.1 st.2 (by simp) hE
theorem DQ(l:Addr)(items:Array Value)(n:Nat)(dct:Option Addr)(sl:Array (Option Value)):
 Meets (Builtin.«enumerate.__new__» ⟨[.type "enumerate",.ref l],[]⟩) (fun _ R s=>s.heap.get? l=some { cls:=.type "tuple",dict:=dct,data:=.seq items n,slots:=sl } /\
  R (.ok (.ret (.ref (s.heap.push { cls:=.type "tuple_iterator",data:=.fields #[.ref l,.int 0 0] }).objs.size)))
   { s with heap:=(s.heap.push { cls:=.type "tuple_iterator",data:=.fields #[.ref l,.int 0 0] }).push { cls:=.type "enumerate",data:=.fields #[.none,.bool false,.ref s.heap.objs.size,rawInt 0,.none,.none] } }):=
 .of_wp fun prog w A R s h=>by
  obtain⟨hp,g,d,tk,os⟩:=s;obtain⟨hl,h⟩:=h;have hsub:=sub_enumerate;have hL:Heap.IsTuple (Shared.heap ⟨hp,g,d,tk,os⟩) l items:=⟨_,hl,rfl,n,rfl⟩
  wp_walk using U7 hl
  refine wpAny_stack_any fun st=>A6 ?_;split
  .rename_i c _ _ _ _ _;cases (c==Value.type "enumerate")
   .wp_walk using U7 hl,Z6 hL
    exact⟨_,rfl,h⟩
   .wp_walk using U7 hl,Z6 hL
    exact⟨_,rfl,h⟩
  .wp_walk using U7 hl,Z6 hL
   exact⟨_,rfl,h⟩
section
variable{prog:Program}{w:World}{A:Around}{E:Value->Shared->Prop}{s:Shared}
theorem FG{l:Addr}{items:Array Value}{Q:Value->Shared->Prop}(hL:s.heap.IsTuple l items)
 (h:∀h',IsEnum h' (s.heap.objs.size+1) s.heap.objs.size 0 .none->h'.IsTupleIter s.heap.objs.size l 0->h'.objs.size=s.heap.objs.size+2->
  (∀b o,s.heap.get? b=some o->h'.get? b=some o)->Q (.ref (s.heap.objs.size+1)) { s with heap:=h' }):
 wpAny (model prog w) A (call (.type "enumerate") [.ref l]) Q E s:=by
 obtain⟨⟨c,dct,dt,sl⟩,hl,hc,n,hd⟩:=hL
 replace hc:c=.type "tuple":=hc
 replace hd:dt=.seq items n:=hd
 subst hc hd
 refine callType_new F.called_enumerate (by decide) (F.typeCall_enumerate_1 _) (F.newCall_enumerate_1 _) (fun obj=>F.args_object_init_2 obj _) F.entry_enumerate_new
  (DQ l items n dct sl) ⟨hl,?_⟩
 have hz:(s.heap.push { cls:=.type "tuple_iterator",data:=.fields #[.ref l,.int 0 0] }).objs.size=s.heap.objs.size+1:=O4 ..;show _/\_;rw[hz]
 have he:IsEnum ((s.heap.push { cls:=.type "tuple_iterator",data:=.fields #[.ref l,.int 0 0] }).push
  { cls:=.type "enumerate",data:=.fields #[.none,.bool false,.ref s.heap.objs.size,rawInt 0,.none,.none] }) (s.heap.objs.size+1) s.heap.objs.size 0 .none:=by
  have:=B7 (s.heap.push { cls:=.type "tuple_iterator",data:=.fields #[.ref l,.int 0 0] })
   (o:={ cls:=.type "enumerate",data:=.fields #[.none,.bool false,.ref s.heap.objs.size,rawInt 0,.none,.none] }) rfl
  rw[hz]at this;exact this
 refine⟨⟨_,he,rfl⟩,h _ he ⟨_,A2 _ (B7 _ rfl),rfl,rfl⟩ (by rw[O4,hz]) fun b o x=>A2 _ (A2 _ x)⟩
end
end PySem
namespace L2
open PySem PySem.Spec PyProof.Rows
section
variable{X:Cx}{pins:List (Addr×Obj)}{σ:St}{H:Hp}{s:Shared}{h':Heap}
theorem Inv.turnLay{fp:List Addr}{a:Addr}{o:HO}{t':Nat}(I:Inv X pins σ H s)(hf:∀b∈fp,uH X pins H b)(k:∀b u,b∉fp->s.heap.get? b=some u->h'.get? b=some u)(hp:s.heap.objs.size<=a)(new:dM X.prog X.w (upd H a o) h' a o):
 Inv X pins σ (upd H a o) { s with heap:=h',toks:=t' }:=by
 have hn:H a=none:=I.hok.fresh hp;have nf:∀b u,H b=some u->b∉fp:=fun b u e z=>by rw[(hf b z).1]at e;cases e
 refine I.step (g':=s.gens) (d':=s.drawn) (ch:=fp) (fun b hb=>?_) (fun b o _ _ hc e _=>k b o hc e) (fun b o _ _ hc e _=>⟨o.slots,k b o hc e⟩) (fun b o _ e n=>?_) (fun b o hc e=>⟨o,k b o hc e⟩)
  (fun b xs e=>?_) (fun b o u e=>?_) (fun b ps e=>⟨#[],?_⟩) (fun m hm=>?_) ?_ I.bare
 .obtain⟨_,f1,_,f3,f4,f5⟩:=hf b hb;exact⟨f3,f1,f4,f5⟩
 .rw[aL (fun z=>by subst z;exact absurd (B0 e) (Nat.not_lt.mpr hp))];exact n
 .rw[aL (aQ e hn)];exact e
 .rw[aL (aQ e hn)];exact e
 .rw[aL (aQ e hn)];simpa using e
 .obtain⟨o,es,ep,ho,r⟩:=hm;exact⟨o,es,ep,k _ o (fun z=>(hf _ z).2.1 rfl) ho,r⟩
 .intro b u e;by_cases hb:b=a
  .subst hb;rw[aR]at e;cases e;exact new
  .rw[aL hb]at e;refine(I.hok b u e).stay (fun c v hc q=>k c v ?_ q) (fun c q=>by rw[aL (aQ q hn)];exact q) fun c xs q=>by rw[aL (aQ q hn)];exact q
   rcases hc with z|z
   .rw[z];exact nf b _ e
   .exact nf c _ z
theorem Inv.turnF{fp:List Addr}{t':Nat}(I:Inv X pins σ H s)(hf:∀b∈fp,uH X pins H b)(k:∀b u,b∉fp->s.heap.get? b=some u->h'.get? b=some u):Inv X pins σ H { s with heap:=h',toks:=t' }:=by
 have nf:∀b u,H b=some u->b∉fp:=fun b u e z=>by rw[(hf b z).1]at e;cases e
 refine I.step (g':=s.gens) (d':=s.drawn) (ch:=fp) (fun b hb=>?_) (fun b o _ _ hc e _=>k b o hc e) (fun b o _ _ hc e _=>⟨o.slots,k b o hc e⟩) (fun _ _ _ _ n=>n) (fun b o hc e=>⟨o,k b o hc e⟩)
  (fun _ _ e=>e) (fun _ _ _ e=>e) (fun b ps e=>⟨#[],by simpa using e⟩) (fun m hm=>?_) (fun b u e=>?_) I.bare
 .obtain⟨_,f1,_,f3,f4,f5⟩:=hf b hb;exact⟨f3,f1,f4,f5⟩
 .obtain⟨o,es,ep,ho,r⟩:=hm;exact⟨o,es,ep,k _ o (fun z=>(hf _ z).2.1 rfl) ho,r⟩
 .refine(I.hok b u e).stay (fun c v hc q=>k c v ?_ q) (fun _ q=>q) fun _ _ q=>q;rcases hc with z|z
  .rw[z];exact nf b _ e
  .exact nf c _ z
end
noncomputable def Ite(Sq:Hp->List V->Prop):It:=
 ⟨fun i H=>∃xs x,Sq H xs/\xs[i]?=some x,fun i H v H'=>∃p x,H p=none/\v=.ref p/\H'=upd H p (.tup [.int i,x])/\∀xs,Sq H xs->xs[i]?=some x,fun i H=>∃xs,Sq H xs/\xs.length=i⟩
noncomputable def tnE(e it:Addr)(It:Heap->Nat->Prop)(i:Nat)(h:Heap):Prop:=(∃old,IsEnum h e it i old)/\It h i
section
variable{P:Program}{w:World}{K:Fg}{elts:List Expr}{x1:Nat}{tpos:Pos}
theorem GR{e it a:Addr}{Sq:Hp->List V->Prop}{It:Heap->Nat->Prop}(hei:e≠it)
 (hobj:∀h i,It h i->∃o vs,h.get? it=some o/\o.data=.fields vs) (hkeep:∀h h' i,It h i->(∀o,h.get? it=some o->h'.get? it=some o)->It h' i)
 (hinj:∀(X:Cx),X.K=K->∀pins σ H s,Inv X pins σ H s->∀xs ys,Sq H xs->Sq H ys->xs=ys)
 (draw:∀(X:Cx),X.prog=P->X.w=w->X.K=K->X.calm=true->∀pins σ H s,Inv X pins σ H s->∀xs,Sq H xs->(∃o vs,s.heap.get? it=some o/\o.data=.fields vs)->(∃o vs,s.heap.get? e=some o/\o.data=.fields vs)->∃(its:List Value)(fp:List Addr)(S:Nat->Heap->Prop),bK xs its/\e∉fp /\
  Draws P w X.A.in1 it fp its.length (fun i v=>its[i]?=some v) S/\(∀i,It s.heap i->S i s.heap)/\∀i h,S i h->It h i):
 Turn P w K (.Tuple elts x1 tpos) (Ite Sq) [e,it] e (tnE e it It) where
 mem:=by simp
 obj:=fun i h st b hb=>by
  obtain⟨⟨old,h1⟩,h2⟩:=st;rcases List.mem_cons.mp hb with rfl|hb
  .exact⟨_,h1,fun v z=>by cases z⟩
  .obtain⟨o,vs,q1,q2⟩:=hobj _ _ h2;rw[List.mem_singleton.mp hb];exact⟨o,q1,fun v z=>by rw[q2]at z;cases z⟩
 keep:=fun i h h' st k=>by
  obtain⟨⟨old,h1⟩,h2⟩:=st;exact⟨⟨old,k e (by simp) _ h1⟩,hkeep _ _ _ h2 fun o q=>k it (by simp) o q⟩
 item:=by
  sleep 16;obtain⟨xs,x,hq,hx⟩:=hg;obtain⟨⟨old,he⟩,hit⟩:=st;obtain⟨its,fp,S,rv,hef,D,s1,s2⟩:=draw X hP hw hK hc pins σ H s I xs hq (hobj _ _ hit) ⟨_,_,he,rfl⟩;subst hP hw hK;obtain⟨u,hu,ru⟩:=rv.get hx;have hlt:i<its.length:=(List.getElem?_eq_some_iff.mp hu).1;refine wpAny_pyNext_enum_itemD D he (s1 _ hit) hlt hei hef fun v h1 tk hv ho st1 ht hsz hk=>⟨_,rfl,?_⟩;rw[hu]at hv;cases hv;refine wpAny_letOwnedTupleGo_enum ho fun h2 he2 sb=>?_;have ne:s.heap.objs.size≠e:=F7 (B0 he);have ht2:h2.get? s.heap.objs.size=some { cls:=.type "tuple",data:=.seq #[.int i tk,u] }:=(sb.2 _ ne).trans ht
  have I2:Inv X pins σ (upd H s.heap.objs.size (.tup [.int i,x])) { s with heap:=h2,toks:=tk+1 }:=by
   refine I.turnLay hf (fun b o hb q=>(sb.2 b fun z=>hb (by simp[z])).trans (hk b o (fun z=>hb (by simp[z])) (fun z=>hb (by simp[z])) q)) (A7 _) ⟨by show 2<=sizeLine;rw[E1];decide,[.int i tk,u],.cons ⟨tk,rfl⟩ (.cons ru .nil),⟨_,ht2,rfl,_,rfl⟩⟩
  refine⟨.ref s.heap.objs.size,_,I2,rfl,⟨_,x,I.hok.fresh (A7 _),rfl,rfl,fun ys hy=>by rw[hinj X rfl _ _ _ _ I ys xs hy hq];exact hx⟩,⟨⟨_,by have:=he2;push_cast;exact this⟩,?_⟩,fun b hb=>?_⟩
  .exact hkeep _ _ _ (s2 _ _ st1) fun o q=>(sb.2 it (F4 hei)).trans q
  .have hb0:=(hf b hb).1;rw[aL (fun z=>?_)]
   .exact hb0
   .subst z;rcases List.mem_cons.mp hb with q|q
    .exact ne q
    .obtain⟨o,vs,q1,_⟩:=hobj _ _ hit;rw[<- List.mem_singleton.mp q]at q1;exact absurd (B0 q1) (F6 _)
 done:=by
  sleep 16;obtain⟨xs,hq,hx⟩:=hg;obtain⟨⟨old,he⟩,hit⟩:=st;obtain⟨its,fp,S,rv,hef,D,s1,s2⟩:=draw X hP hw hK hc pins σ H s I xs hq (hobj _ _ hit) ⟨_,_,he,rfl⟩;subst hP hw hK;have hl:=rv.length;rw[hl]at hx;subst hx;exact wpAny_pyNext_enum_endD D he (s1 _ hit) fun h1 hx=>⟨rfl,I.turnF (t':=s.toks) hf fun b o hb q=>hx b o (fun z=>hb (by simp[z])) q⟩
 self:=fun A i s Q E st h=>by
  obtain⟨⟨old,he⟩,_⟩:=st;exact wpAny_pyIter_enum he h
theorem QD{e it a:Addr}(hei:e≠it):Turn P w K (.Tuple elts x1 tpos) (Ite fun H xs=>SqL K H a xs) [e,it] e (tnE e it fun h i=>h.IsListIter it a i):=by
 refine GR (a:=a) hei (fun h i st=>?_) (fun h h' i st k=>st.at k) (fun X hK pins σ H s I xs ys h1 h2=>?_) fun X hP hw hK hc pins σ H s I xs hq hi he=>?_
 .obtain⟨o,q,_,d⟩:=st;exact⟨o,_,q,d⟩
 .subst hK;exact I.list_inj h1 h2
 .subst hP hw hK;obtain⟨its,rv,p,hz⟩:=I.list hq
  have ne:∀b,(∃o vs,s.heap.get? b=some o/\o.data=.fields vs)->a≠b:=fun b ⟨o,vs,q,d⟩ z=>by
   subst z;obtain⟨o',q',_,n,d'⟩:=p.isList;rw[q]at q';cases q';rw[d]at d';cases d'
  refine⟨its,[it,a],fun i h=>h.IsListIter it a i/\h.IsList a its.toArray,rv,?_,?_,fun i st=>⟨st,p.isList⟩,fun i h st=>st.1⟩
  .intro z;rcases List.mem_cons.mp z with z|z
   .exact hei z
   .exact ne e he (List.mem_singleton.mp z).symm
  .have:=Draws.list (prog:=X.prog) (w:=X.w) (A:=X.A.in1) (I.ok.hd hc) it a (ne it hi) its.toArray;simpa using this
theorem QL{e it a:Addr}(hei:e≠it):Turn P w K (.Tuple elts x1 tpos) (Ite fun H xs=>SqT K H a xs) [e,it] e (tnE e it fun h i=>h.IsTupleIter it a i):=by
 refine GR (a:=a) hei (fun h i st=>?_) (fun h h' i st k=>st.at k) (fun X hK pins σ H s I xs ys h1 h2=>?_) fun X hP hw hK hc pins σ H s I xs hq hi he=>?_
 .obtain⟨o,q,_,d⟩:=st;exact⟨o,_,q,d⟩
 .subst hK;exact I.tuple_inj h1 h2
 .subst hP hw hK;obtain⟨its,rv,p,hz⟩:=I.tuple hq;have pt:s.heap.IsTuple a its.toArray:=p
  have ne:∀b,(∃o vs,s.heap.get? b=some o/\o.data=.fields vs)->a≠b:=fun b ⟨o,vs,q,d⟩ z=>by
   subst z;obtain⟨o',q',_,n,d'⟩:=pt;rw[q]at q';cases q';rw[d]at d';cases d'
  refine⟨its,[it,a],fun i h=>h.IsTupleIter it a i/\h.IsTuple a its.toArray,rv,?_,?_,fun i st=>⟨st,pt⟩,fun i h st=>st.1⟩
  .intro z;rcases List.mem_cons.mp z with z|z
   .exact hei z
   .exact ne e he (List.mem_singleton.mp z).symm
  .have:=UV (prog:=X.prog) (w:=X.w) (A:=X.A.in1) (I.ok.hd hc) it a (ne it hi) its.toArray;simpa using this
end
section
variable{X:Cx}{elts:List Expr}{x1:Nat}{tpos:Pos}
noncomputable def aBx(K:Fg)(ta:TA):TI:=fun σ H R=>ta σ H fun vs H1=>∃a,vs=[.ref a]/\((∃xs,SqL K H1 a xs/\R (Ite fun H xs=>SqL K H a xs) H1)\/(∃xs,SqT K H1 a xs/\R (Ite fun H xs=>SqT K H a xs) H1))
theorem UD{a:Expr}{ta:TA}{p pos:Pos}(hg:Gl X "enumerate")(hm:X.mg "enumerate"=none)(ha:PA X [a] ta)(hs:starEach [a] X.env=[(false,eval a X.env)]:=by rfl):PI X (.Tuple elts x1 tpos) (.Call (.Name "enumerate" p) [a] [] pos) (aBx X.K ta):=by
 intro pins s σ H R I h;refine Call_ (wA I hg hm boot_enumerate (Y6 (thn (ha pos pins s σ H _ I h) fun us s1 ⟨vs,H1,I1,r1,q1⟩=>?_) hs rfl));obtain⟨l,e,q⟩:=q1;subst e;cases r1 with
 |cons r rr=>
  cases rr;cases (show _=Value.ref l from r)
  have fp:∀b∈[s1.heap.objs.size+1,s1.heap.objs.size],uH X pins H1 b:=fun b hb=>by
   rcases List.mem_cons.mp hb with rfl|hb
   .exact I1.fpOk (Nat.le_succ _) (I1.hok.fresh (Nat.le_succ _))
   .rw[List.mem_singleton.mp hb];exact I1.fpOk (A7 _) (I1.hok.fresh (A7 _))
  rcases q with⟨xs,hq,q⟩|⟨xs,hq,q⟩
  .obtain⟨its,rv,p,hz⟩:=I1.list hq;refine call_enumerate_list p.isList fun h' he hit hsz hk=>?_;refine wpAny_pyIter_enum he ?_;exact⟨_,_,_,_,H1,rfl,I1.kept (t':=s1.toks) hk,QD (a:=l) (Nat.succ_ne_self _),⟨⟨_,he⟩,hit⟩,fp,q⟩
  .obtain⟨its,rv,p,hz⟩:=I1.tuple hq;refine FG (show s1.heap.IsTuple l its.toArray from p) fun h' he hit hsz hk=>?_;refine wpAny_pyIter_enum he ?_;exact⟨_,_,_,_,H1,rfl,I1.kept (t':=s1.toks) hk,QL (a:=l) (Nat.succ_ne_self _),⟨⟨_,he⟩,hit⟩,fp,q⟩
end
noncomputable def GM(ds:List PyData):List CD:=ds.zipIdx.map fun p=>.d (.tuple [.int (p.2:Nat),p.1])
noncomputable def OB(f:AF):AF:=fun γ M=>(f γ M).bind fun r=>match r.1 with
 |[.d x]=>(aW x).bind fun ds=>some (GM ds,r.2)
 |_=>none
theorem VO{ds:List PyData}{i:Nat}{x:CD}(h:(GM ds)[i]?=some x):∃d,ds[i]?=some d/\x=.d (.tuple [.int (i:Nat),d]):=by
 unfold GM at h;rw[D5,List.getElem?_zipIdx]at h;cases e:ds[i]? with
 |none=>rw[e]at h;cases h
 |some d=>
  rw[e]at h;exact⟨d,rfl,by simpa using h.symm⟩
theorem aDf{K:Fg}{tA:TA}{fa:AF}(b:SA K tA fa):SI K (aBx K tA) (OB fa):=by
 intro γ M xs M' hh W H σ R G Rs k;sleep 6;refine b _ _ _ _ h1 W H σ _ G Rs fun vs W1 H1 e1 G1 r1=>?_;revert hh;dsimp only;split
 .rename_i y;intro hh;obtain⟨ds,h2,hh⟩:=aG hh;cases hh;cases r1 with
  |cons r r'=>
   cases r';obtain⟨p,us,rfl,hs,hr⟩:=jT (show Rep K W1.F y _ from r) h2
   have gv:∀Sq:Hp->List V->Prop,(∀W2 M2 H2,W1.Ext W2->Good K W2 M2 H2->Sq H2 us)->QO K (Ite Sq) (GM ds) W1:=fun Sq hS W2 M2 H2 e2 G2=>by
    have hq:=hS W2 M2 H2 e2 G2;refine⟨fun i x hx=>?_,us,hq,by rw[show(GM ds).length=ds.length by simp[GM],hr.length]⟩;obtain⟨d,hd,rfl⟩:=VO hx;obtain⟨u,hu,ru⟩:=Paired.get (kN hr) (show(ds.map CD.d)[i]?=some (.d d)by rw[D5,hd];rfl);refine⟨⟨us,u,hq,hu⟩,fun v H3 hy=>?_⟩;obtain⟨p',x',hn,rfl,rfl,hx'⟩:=hy;have:=hx' us hq;rw[hu]at this;cases this;obtain⟨e3,G3⟩:=G2.lay (o:=.tup [.int i,u]) hn;refine⟨_,e3,G3,⟨p',_,rfl,SqT.of aR,?_⟩⟩;exact⟨_,_,rfl,rfl,_,_,rfl,Rep.same e3.ff _ _ (show Rep K W2.F d u from(ru.up e2)),rfl⟩
   refine⟨p,rfl,?_⟩;rcases hs with hs|hs
   .exact .inl ⟨us,G1.fh.seq hs,k _ W1 H1 e1 G1 (gv _ fun W2 M2 H2 e2 G2=>G2.fh.seq (e2.ff.seq hs))⟩
   .exact .inr ⟨us,G1.fh.seqT hs,k _ W1 H1 e1 G1 (gv _ fun W2 M2 H2 e2 G2=>G2.fh.seqT (e2.ff.seqT hs))⟩
 .intro hh;cases hh
theorem aEd{ι:Type}{K:Fg}{X:ι->Cx}{a:Expr}{fa:AF}{pos:Pos}{elts:List Expr}{x1:Nat}{tpos p:Pos}(hK:∀i,(X i).K=K)(hm:∀i,(X i).mg "enumerate"=none)(x:MA K X [a] fa)(hg:∀i,Gl (X i) "enumerate":=by intro _;rfl):MI K X (.Tuple elts x1 tpos) (.Call (.Name "enumerate" p) [a] [] pos) (OB fa):=by
 obtain⟨t,x1',x2⟩:=x.ex;exact⟨_,fun i=>by have:=UD (elts:=elts) (x1:=x1) (tpos:=tpos) (p:=p) (pos:=pos) (hg i) (hm i) (x1' i) (x.st.1 _);rw[hK i]at this;exact this,aDf x2⟩
end L2
namespace PySem
open PySem.Calls PyProof.Rows
noncomputable abbrev vY(x:Value)(f:Bool)(d:Addr)(i n ep:Nat)(p q:Value):Obj:=
 { cls:=.type "dict_itemiterator",dict:=none,data:=.fields #[x,.bool f,.ref d,.int i 0,.int n 0,.int ep 0,p,q],slots:=#[] }
noncomputable abbrev duo(e:DictEntry):Obj:={ cls:=.type "tuple",data:=.seq #[e.key,e.val] }
noncomputable def GS(h:Heap)(it d:Addr)(i n ep:Nat):Prop:=
 ∃x f p q,h.get? it=some (vY x f d i n ep p q)/\(x=.none\/∃a o,x=rawInt (a:Nat)/\h.get? a=some o)
noncomputable def Raw(h:Heap)(d:Addr)(es:Array DictEntry)(ep:Nat):Prop:=∃o,h.get? d=some o/\o.data=.dict es ep
theorem Raw.to{h h':Heap}{d:Addr}{es:Array DictEntry}{ep:Nat}(r:Raw h d es ep)(k:∀o,h.get? d=some o->h'.get? d=some o):Raw h' d es ep:=let⟨o,e,x⟩:=r;⟨o,k o e,x⟩
section
variable{prog:Program}{w:World}{A:Around}{E:Value->Shared->Prop}{s:Shared}{it d v:Addr}{es:Array DictEntry}{i n ep:Nat}
theorem QK(d:Addr)(hd:(d==sysModules)=false):MeetsIn prog w (Builtin.«dict.items» ⟨[.ref d],[]⟩) fun _ R s=>s.TypeIs (.ref d) "dict" /\
 R (.ok (.ret (.ref s.heap.objs.size))) { s with heap:=s.heap.push { cls:=.type "dict_items",data:=.fields #[.ref d] } }:=
 .of_wp fun A R s ⟨ty,h⟩=>by
  have q:Builtin.Dict.showsAll d=pure ():=by unfold Builtin.Dict.showsAll;rw[hd];rfl
  show wpAny _ _ (Builtin.Dict.noArgs _ _ >>= fun _=>_) _ _ s;unfold Builtin.Dict.noArgs;refine A0 (A0 (wpAny_notOrdered_dict ty (A6 (?_:wpAny _ _ (Builtin.Dict.showsAll d >>= _) _ _ s))));rw[q];exact A0 (A6 (A0 (D7 (A6 ⟨_,rfl,h⟩))))
theorem PY{Q:Value->Shared->Prop}(hv:s.heap.IsItemsView v d)(r:Raw s.heap d es ep)
 (h:Q (.ref s.heap.objs.size) { s with heap:=s.heap.push (vY .none false d 0 es.size ep .none .none) }):wpAny (model prog w) A (pyIter (.ref v)) Q E s:=by
 obtain⟨ov,v1,v2,v3⟩:=id hv;obtain⟨o,r1,r2⟩:=r;refine wpAny_pyIter_slot hv.typeIs F.slot_dict_items_iter (J3 F.slot_dict_items_iter hv.typeIs F.entry_dict_items_iter (A0 (A6 (A0 (?_:wpAny _ _ (field (.ref v) 0 >>= _) _ _ s)))) (F.args_dict_items_iter_1 _));refine A0 (E7 v1 v3 (x:=.ref d) rfl (A6 (A0 (?_:wpAny _ _ (Builtin.Dict_items.newIterator _ d) _ _ s))));refine A0 (wpAny_dictEntries r1 r2 (A0 (wpAny_dictEpoch r1 r2 ?_)));rw[show Builtin.Dict_items.ownsTuple "dict_itemiterator"=true from by decide];refine D7 (A6 ⟨_,rfl,_,_,⟨_,B7 _ rfl,rfl⟩,F.slot_dict_itemiterator_next.lookup,?_⟩) (by simp[sizeOk,Builtin.Dict_items.ownedTupleFields,sizeLine_eq]);exact h
theorem YZ{e:DictEntry}{Q:Value->Shared->Prop}(st:GS s.heap it d i n ep)
 (h:∀h',GS h' it d i n ep->h'.get? s.heap.objs.size=some (duo e)->(∀b o,b≠it->s.heap.get? b=some o->h'.get? b=some o)->Q (.ref s.heap.objs.size) { s with heap:=h' }):
 wpAny (model prog w) A (Builtin.Dict_items.pairFromOwner (.ref it) 6 e.key e.val) Q E s:=by
 obtain⟨H,g,dr,tk,os⟩:=s;obtain⟨x,f,p,q,w0,hx⟩:=st;have lt:it<H.objs.size:=B0 w0;have new:(H.push (duo e)).get? H.objs.size=some (duo e):=B7 _ rfl;have old:∀b o,H.get? b=some o->(H.push (duo e)).get? b=some o:=fun b o=>A2 _;refine A0 (wpAny_newTuple ?_);show wpAny _ _ (Builtin.Dict_items.ownedTupleIsFree (.ref it) >>= _) _ _ ⟨H.push (duo e),g,dr,tk,os⟩;generalize H.push (duo e)=G at new old ⊢;have w1:=old it _ w0
 have fin:∀h' x' f' p' q',h'.get? it=some (vY x' f' d i n ep p' q')->(x'=.none\/∃a o,x'=rawInt (a:Nat)/\G.get? a=some o)->Heap.SameBut it G h'->Q (.ref H.objs.size) ⟨h',g,dr,tk,os⟩:=by
  intro h' x' f' p' q' k1 k2 k3;refine h h' ⟨x',f',p',q',k1,k2.imp id ?_⟩ (k3.extBut _ _ (F7 lt) new) fun b o nb e=>k3.extBut b o nb (old b o e);rintro⟨a,o,ea,eo⟩;by_cases c:a=it
  .exact⟨a,_,ea,c▸k1⟩
  .exact⟨a,o,ea,k3.extBut a o c eo⟩
 unfold Builtin.Dict_items.ownedTupleIsFree;refine A0 (A0 (E7 w1 rfl (x:=x) rfl ?_));rcases hx with rfl|⟨a,o,rfl,ea⟩
 .refine A6 (A0 (E7 w1 rfl (x:=p) rfl (A0 (E7 w1 rfl (x:=q) rfl (A0 (S1 w1 (by simp) fun h1 w2 k2=>?_))))));refine A0 (S1 w2 (by simp) fun h2 w3 k3=>A0 (S1 w3 (by simp) fun h3 w4 k4=>A0 (S1 w4 (by simp) fun h4 w5 k5=>?_)));exact A0 (wpAny_letGo (A6 (fin h4 _ _ _ _ w5 (.inr ⟨_,_,rfl,new⟩) (((k2.trans k3).trans k4).trans k5))))
 .have al:(loadIfAlive ((a:Int).toNat):Sem (Option Obj))=loadIfAlive a:=by rw[Int.toNat_natCast]
  show wpAny _ _ (loadIfAlive ((a:Int).toNat) >>= _) _ _ _;rw[al];refine A0 (W.kdx_alive (old a o ea) ?_);show wpAny _ _ (field (.ref it) 1 >>= _) _ _ _;refine A0 (E7 w1 rfl (x:=.bool f) rfl ?_);cases f
  .exact A0 (S1 w1 (by simp) fun h1 w2 k2=>A6 (A6 (fin h1 _ _ _ _ w2 (.inr ⟨a,o,rfl,old a o ea⟩) k2)))
  .exact A6 (A6 (fin G _ _ _ _ w1 (.inr ⟨a,o,rfl,old a o ea⟩) (Heap.SameBut.refl _ _)))
theorem RP{Q:Option Value->Shared->Prop}(hh:A.handled=none)(st:GS s.heap it d i es.size ep)(r:Raw s.heap d es ep)(ne:d≠it)
 (h1:∀e,es[i]?=some e->∀h',GS h' it d (i+1) es.size ep->h'.get? s.heap.objs.size=some (duo e)->(∀b o,b≠it->s.heap.get? b=some o->h'.get? b=some o)->Q (some (.ref s.heap.objs.size)) { s with heap:=h' })
 (h2:es[i]?=none->∀h',Heap.ExtBut it s.heap h'->Q none { s with heap:=h' }):wpAny (model prog w) A (pyNext (.ref it)) Q E s:=by
 obtain⟨H,g,dr,tk,os⟩:=s;obtain⟨x,f,p,q,w0,hx⟩:=st;obtain⟨od,r1,r2⟩:=r;have ty:Shared.TypeIs ⟨H,g,dr,tk,os⟩ (.ref it) "dict_itemiterator":=⟨_,w0,rfl⟩;have own:Builtin.Dict_items.ownsTuple "dict_itemiterator"=true:=by decide
 unfold pyNext;refine A0 (wpAny_attempt (O5 ty F.slot_dict_itemiterator_next (J3 F.slot_dict_itemiterator_next ty F.entry_dict_itemiterator_next (A0 (A6 (A0 (A0 ?_)))) (F.args_dict_itemiterator_next_1 _))));refine A0 (Y7 ty (A6 (A0 (wpAny_fieldsOf w0 rfl ?_))));rw[own];refine A0 (A6 (A0 (wpAny_dictEntries r1 r2 ?_)));rw[A5 (by simp)];refine A0 (A6 (A0 (wpAny_dictEpoch r1 r2 ?_)));rw[A5 (by simp)];refine A6 ?_;have pl:(if (i:Int)<0 then none else es[(i:Int).toNat]?)=es[i]?:=by rw[A5 (by omega),Int.toNat_natCast]
 simp only[pl];cases c:es[i]? with
 |some e=>
  refine A0 (A0 (Y7 ty (A6 (A0 (wpAny_isOneOf_itemiter ty ?_)))));refine A0 (S1 w0 (k:=3) (x:=rawInt ((i:Int)+1)) (by simp) fun h' w1 k1=>A0 (E2 ?_))
  have st1:GS h' it d (i+1) es.size ep:=by
   refine⟨x,f,p,q,w1,hx.imp id fun⟨a,o,ea,eo⟩=>?_⟩;by_cases c:a=it
   .exact⟨a,_,ea,c▸w1⟩
   .exact⟨a,o,ea,k1.extBut a o c eo⟩
  have ty1:Shared.TypeIs ⟨h',g,dr,tk,os⟩ (.ref it) "dict_itemiterator":=⟨_,w1,rfl⟩;refine A0 (wpAny_isOneOf_itemiter ty1 (A0 (wpAny_isOneOf_itemiter ty1 (YZ (e:=e) st1 fun h'' st2 t2 k2=>?_))));have sz:h'.objs.size=H.objs.size:=k1.1;refine A6 ⟨_,rfl,A6 ?_⟩;rw[sz]at t2 ⊢;exact h1 e c h'' st2 t2 fun b o nb eb=>k2 b o nb (k1.extBut b o nb eb)
 |none=>
  refine A0 (A0 (Y7 ty (A6 (A0 (U9 w0 (i:=2) (x:=.none) rfl (by simp) (A0 ?_))))));simp only[newExc,newTuple];refine A0 (D7 (A0 (m:=firstArgMember _ _) (wpAny_of_eq (a:=Value.none) (by simp only[firstArgMember];rfl) (D7 ?_ (by size_fits)))) (by size_fits));simp only[raiseNew];refine A0 (wpAny_handled ?_);rw[show A.in1.handled=none from hh];refine A0 (A6 (wpAny_throw ?_));refine A0 (wpAny_isInstance (b:=true) (T:="StopIteration") ⟨_,B7 _ rfl,rfl⟩ isSubtype_stop ?_);exact A6 (h2 c _ (((Heap.SameBut.update ..).extBut.push _).push _))
end
structure Handed(es:Array DictEntry)(lo:Addr)(h:Heap)(as:List Addr):Prop where
 rise:as.Pairwise (·<·)
 above:∀a∈as,lo<a
 duos:∀(j:Nat)(a:Addr),as[j]?=some a->∃e,es[j]?=some e/\h.get? a=some (duo e)
theorem Handed.to{es:Array DictEntry}{lo lo':Addr}{h h':Heap}{as:List Addr}(g:Handed es lo h as)(l:lo'<=lo)(k:∀a o,lo<a->h.get? a=some o->h'.get? a=some o):Handed es lo' h' as:=
 ⟨g.rise,fun a ha=>Z1 l (g.above a ha),fun j a ha=>let⟨e,x,y⟩:=g.duos j a ha;⟨e,x,k a _ (g.above a (List.mem_of_getElem? ha)) y⟩⟩
theorem Handed.more{es:Array DictEntry}{lo a:Addr}{h:Heap}{as:List Addr}{e:DictEntry}(g:Handed es lo h as)(up:∀b∈as,b<a)(hl:lo<a)(he:es[as.length]?=some e)(ha:h.get? a=some (duo e)):Handed es lo h (as++[a]):=by
 refine⟨List.pairwise_append.mpr ⟨g.rise,List.pairwise_singleton _ _,fun b hb c hc=>by rw[List.mem_singleton.mp hc];exact up b hb⟩,fun b hb=>?_,fun j b hj=>?_⟩
 .exact(List.mem_append.mp hb).elim (g.above b) fun q=>List.mem_singleton.mp q▸hl
 .rw[List.getElem?_append]at hj;split at hj
  .exact g.duos j b hj
  .have z:j-as.length=0:=by
    have:=(List.getElem?_eq_some_iff.mp hj).1;simp at this;omega
   rw[z]at hj;cases hj;exact⟨e,by rw[show j=as.length by omega];exact he,ha⟩
noncomputable abbrev rowOf(acc:Array Value)(c:Nat):Obj:={ cls:=.type "list",dict:=none,data:=.seq acc c,slots:=#[] }
section
variable{prog:Program}{w:World}{A:Around}{E:Value->Shared->Prop}{s:Shared}{S I d v:Addr}{es:Array DictEntry}{ep:Nat}{R:Result->Shared->Prop}{res:Value}
theorem QW(hh:A.handled=none)(hI:S<I)(dS:d≠S)(dI:d≠I)(hn:es.size<=sizeLine):
 ∀(m i:Nat)(h:Heap)(tk c:Nat)(acc:Array Value)(as:List Addr),i+m=es.size->GS h I d i es.size ep->Raw h d es ep->h.get? S=some (rowOf acc c)->acc.toList=as.map Value.ref->as.length=i->Handed es I h as->I<h.objs.size->
  (∀h' tk acc c as,(∀b o,b≠S->b≠I->h.get? b=some o->h'.get? b=some o)->h'.get? S=some (rowOf acc c)->as.length=es.size->Handed es I h' as->acc.toList=as.map Value.ref->R (.ok (.ret res)) { s with heap:=h',toks:=tk })->
  codeAny (model prog w) A (.builtin "list.extend.loop" ⟨[.ref S,.ref I,res],[]⟩) R { s with heap:=h,toks:=tk }:=by
 intro m
 induction m using Nat.strongRecOn with
 |_ m ih=>
  intro i h tk c acc as em st r hS ea el hG lI fin;have nS:S≠I:=B6 hI;refine codeAny_builtin PySem.F.entry_extend_loop ?_;rw[Around.under_plainId S8 _];refine A0 (RP (A:=A.in1) (s:={ s with heap:=h,toks:=tk }) hh st r dI (fun e he h1 st1 t1 k1=>?_) fun he h1 k1=>?_)
  .have mi:i<es.size:=(Array.getElem?_eq_some_iff.mp he).1;have za:acc.size=i:=by rw[<- Y5,ea,A8,el]
   have lS:S<h.objs.size:=B0 hS;have hS1:=k1 S _ nS hS;have sv:∀b o,b≠S->h1.get? b=some o->(h1.update S (Obj.mapSeq (·.push (Value.ref h.objs.size)))).get? b=some o:=fun b o nb e=>(D9 _ _ (F4 nb)).trans e;have hS2:=F8 (Obj.mapSeq (·.push (Value.ref h.objs.size))) hS1 rfl;have tp:=sv _ _ (F7 lS) t1;refine A0 (wpAny_updateSeq (f:=(·.push (Value.ref h.objs.size))) hS1 rfl (A6 ⟨plainId_quiet S8 _,?_⟩) (by rw[za];omega) (by show(acc.push _).size<=_;rw[Array.size_push,za];omega))
   refine ih (m-1) (by omega) (i+1) _ tk _ (acc.push (Value.ref h.objs.size)) (as++[h.objs.size]) (by omega) ?_ (r.to fun o e=>sv d o dS (k1 d o dI e)) hS2 (by rw[Array.toList_push,ea,D3];rfl) (by rw[A9,el];rfl)
    ((hG.to (A7 _) fun a o la e=>sv a o (F7 (O1 hI la)) (k1 a o (F7 la) e)).more (fun b hb=>?_) lI (by rw[el];exact he) tp) (O1 lI (B0 tp))
    fun h' tk' acc' c' as' k=>fin h' tk' acc' c' as' fun b o b1 b2 e=>k b o b1 b2 (sv b o b1 (k1 b o b2 e))
   .obtain⟨x,f,p,q,w1,hx⟩:=st1;refine⟨x,f,p,q,sv _ _ (F4 nS) w1,hx.imp id fun⟨a,o,e1,e2⟩=>?_⟩;by_cases q:a=S
    .subst q;exact⟨a,_,e1,hS2⟩
    .exact⟨a,o,e1,sv a o q e2⟩
   .obtain⟨j,hj⟩:=List.mem_iff_getElem?.mp hb;obtain⟨_,_,y⟩:=hG.duos j b hj;exact B0 y
  .have mi:es.size<=i:=Array.getElem?_eq_none_iff.mp he;exact A6 (fin h1 tk acc c as (fun b o _ b2 e=>k1 b o b2 e) (k1 S _ nS hS) (by omega) (hG.to (A7 _) fun a o la e=>k1 a o (F7 la) e) ea)
theorem VR{Q:List Value->Shared->Prop}(hh:A.handled=none)(hv:s.heap.IsItemsView v d)(r:Raw s.heap d es ep)(hn:es.size<=sizeLine)
 (hQ:∀(h':Heap)(tk:Nat)(as:List Addr),(∀b o,s.heap.get? b=some o->h'.get? b=some o)->as.length=es.size->Handed es s.heap.objs.size h' as->Q (as.map Value.ref) { s with heap:=h',toks:=tk }):
 wpAny (model prog w) A (collect (.ref v)) Q E s:=by
 obtain⟨H,g,dr,tk,os⟩:=s;have lv:v<H.objs.size:=let⟨_,ho,_⟩:=hv;B0 ho;have ld:d<H.objs.size:=let⟨_,ho,_⟩:=r;B0 ho;refine A0 (wpAny_runValue (codeAny_builtin entry_proto_collect' ?_));rw[Around.under_plainId PySem.F.plain_proto_collect _];refine A0 (m:=newList []) (D7 (A6 ⟨plainId_quiet PySem.F.plain_list_iadd _,codeAny_builtin entry_list_iadd' ?_⟩));rw[Around.under_plainId PySem.F.plain_list_iadd _];have p0:∀b o,H.get? b=some o->(H.push (rowOf #[] 0)).get? b=some o:=fun b o e=>A2 _ e;have r0:=(B7 H (o:=rowOf #[] 0) rfl);have z0:(H.push (rowOf #[] 0)).objs.size=H.objs.size+1:=O4 ..;show wpAny _ A.in1 (Builtin.List.listExtendWith (.ref H.objs.size) (.ref v) (.ref H.objs.size)) _ _ ⟨H.push (rowOf #[] 0),g,dr,tk,os⟩;generalize H.push (rowOf #[] 0)=G at p0 r0 z0 ⊢;have lG:H.objs.size<G.objs.size:=by rw[z0];exact F5 _
 have hv1:G.IsItemsView v d:=let⟨o,a,b⟩:=hv;⟨o,p0 _ _ a,b⟩;refine A0 (wpAny_typeOf (T:="dict_items") (hv1.typeIs (s:=⟨G,g,dr,tk,os⟩)) ?_);rw[show Builtin.List.listSameRef (.ref H.objs.size) (.ref v)=false from by simp[Builtin.List.listSameRef,Nat.ne_of_gt lv]];refine A0 (PY (s:=⟨G,g,dr,tk,os⟩) hv1 (r.to fun o e=>p0 d o e) (A0 (E2 (W.kdx_hint (r:=v) (let⟨o,a,b,_⟩:=hv1;⟨o,A2 _ a,b⟩) ?_))));have p1:∀b o,G.get? b=some o->(G.push (vY .none false d 0 es.size ep .none .none)).get? b=some o:=fun b o e=>A2 _ e;have r1:=B7 G (o:=vY .none false d 0 es.size ep .none .none) rfl;show wpAny _ _ _ _ _ ⟨G.push (vY .none false d 0 es.size ep .none .none),g,dr,tk,os⟩;generalize G.push (vY .none false d 0 es.size ep .none .none)=F at p1 r1 ⊢
 have go:∀h c,(∀b o,b≠H.objs.size->F.get? b=some o->h.get? b=some o)->h.get? H.objs.size=some (rowOf #[] c)->
  codeAny (model prog w) A (.builtin "list.extend.loop" ⟨[.ref H.objs.size,.ref G.objs.size,.ref H.objs.size],[]⟩) (fun r s'=>match r with|.ok (.ret v)=>wpAny (model prog w) A (match v with|.ref a=>load a >>= fun o=>(match o.data with|.seq xs _=>pure xs.toList|_=>unsupported "internal:collect")|_=>unsupported "internal:collect") Q E s'|.ok _=>False|.error e=>E e s') ⟨h,g,dr,tk,os⟩:=fun h c k hS=>
  QW (s:=⟨H,g,dr,tk,os⟩) (S:=H.objs.size) (I:=G.objs.size) hh lG (B6 ld) (B6 (O1 ld lG)) hn es.size 0 h tk c #[] [] (Nat.zero_add _) ⟨_,_,_,_,k _ _ (F7 lG) r1,.inl rfl⟩ (r.to fun o e=>k _ _ (B6 ld) (p1 _ _ (p0 _ _ e))) hS rfl rfl
   ⟨.nil,(fun _ q=>nomatch q),fun j a q=>by simp at q⟩ (B0 (k _ _ (F7 lG) r1)) fun h' tk' acc c as k' hS' el hG ea=>A0 (wpAny_load hS' (A6 (by
    rw[ea];exact hQ h' tk' as (fun b o e=>k' b o (B6 (B0 e)) (B6 (O1 (B0 e) lG)) (k b o (B6 (B0 e)) (p1 b o (p0 b o e)))) el (hG.to (S5 lG) fun _ _ _ e=>e))))
 have q0:=p1 _ _ r0;have q1:=F8 (Obj.mapSeq (·.push Value.none)) q0 rfl;refine wpAny_ite_split (fun _=>A0 (wpAny_rule (A0 (A0 (wpAny_updateSeq (f:=(·.push Value.none)) q0 rfl (wpAny_updateSeq (hz:=by seq_fits) q1 rfl (A6 ⟨plainId_quiet S8 _,go _ _ (fun b o nb e=>?_) (F8 (Obj.mapSeq (·.pop)) q1 rfl)⟩))))))) fun _=>A6 ⟨plainId_quiet S8 _,go _ _ (fun _ _ _ e=>e) q0⟩;rw[D9 _ _ (F4 nb),D9 _ _ (F4 nb)];exact e
end
end PySem
namespace PySem.W
open PySem PySem.Calls PyProof.Rows PyProof.V PySem.Spec
section
variable{prog:Program}{w:World}{A:Around}{E:Value->Shared->Prop}{s:Shared}{h₀:Heap}{L:Addr}{m:Str->Option Value}{news:List (Addr×Obj)}{vs:List Value}
theorem l2_tail{Q:Value->Shared->Prop}(F:Fr h₀ L s.heap m)(N:News h₀ L s.heap news)(h2:2<=vs.length)(h64:vs.length<64)
 (h:∀D e1 h',Fr h₀ L h' m->News h₀ L h' ((D,seqObj "list" #[] e1)::news)->(∀q∈news,q.1<D)->
  wpAny (model prog w) A.in1 (keyKind' vs.toArray) (fun κ s'=>(kas_sort vs.length).kasWp (kas_ask prog w A.in1 κ vs) (fun p s''=>KasFin h₀ L m D e1 (p.toList.map fun i=>vs.getD i Value.none) (fun s3=>Q (.ref D) s3) s'') s') (fun _ _=>False) { s with heap:=h' }):
 wpAny (model prog w) A (do let l <- newList vs;let _ <- holding [l] (call (.builtin "list.sort") [l]);ret l) (fun fin s'=>∃v,fin=.done (.ret v)/\Q v s') E s:=by
 refine A0 (wpAny_newList ?_ (by rw[E1];omega));have hoL:(s.heap.push (seqObj "list" vs.toArray 0)).get? s.heap.objs.size=some (seqObj "list" vs.toArray 0):=B7 _ rfl;have keep:∀b o,s.heap.get? b=some o->(s.heap.push (seqObj "list" vs.toArray 0)).get? b=some o:=fun b o q=>A2 _ q;have hL:L<s.heap.objs.size:=F.ns.lt;show wpAny _ _ _ _ _ { s with heap:=s.heap.push (seqObj "list" vs.toArray 0) };refine A0 (E2 (J3 slot_list_sort ⟨_,hoL,rfl⟩ entry_list_sort ?body (args_list_sort _)))
 case body=>
  refine kat_list_sort (s:={ s with heap:=s.heap.push (seqObj "list" vs.toArray 0) }) (F.kept keep) (N.grown keep) hoL (F7 hL) (S9 (C8 F.above (S5 hL)))
   (fun p hp=>B6 (B0 (N p hp).1)) h2 h64 fun e1 h' F' N'=>?_
  refine D8 (h _ e1 h' F' N' fun q hq=>B0 (N q hq).1) (fun κ s' hk=>?_) fun _ _ x=>x;rw[kat_ask_eq rfl]at hk ⊢;exact kas_wp_mono hk fun p s'' hk'=>hk'.mono fun s3 hq=>⟨_,rfl,A6 ⟨_,rfl,hq⟩⟩
end
end PySem.W
namespace L2
variable{A:Around}{W:Wd}{M:Sto}{H:Hp}
open PySem PySem.Spec PyProof.Rows
section
variable{X:Cx}{pins:List (Addr×Obj)}{σ:St}{H:Hp}{s:Shared}{E:Value->Shared->Prop}
noncomputable def rN(its:List Value):Sem PySem.Fin:=do let l <- newList its;let _ <- holding [l] (call (.builtin "list.sort") [l]);ret l
noncomputable def aAv(K:Fg)(vs:List V)(H:Hp)(Q:VK):Prop:=
 (∃rows:List (List PyData),aJ K H (rows.map .tuple) vs/\2<=rows.length/\rows.length<64/\(∀r∈rows,r.all SeqAt.shaped=true/\cY r=true)/\(kI rows=true\/qX rows=true)/\(∀i j,i<rows.length->j<rows.length->(dH (rows.getD i []) (rows.getD j [])).isSome=true) /\
  ∀l,H l=none->Q (.ref l) (upd H l (.lst ((dY (eV rows) rows.length).map fun i=>vs.getD i .non))))\/(vs.length<2/\∀l,H l=none->Q (.ref l) (upd H l (.lst vs)))
theorem aIq{rows:List (List PyData)}{vs:List V}{its:List Value}{Q:VK}(hu:A.in1.units+64<cLine)(I:Inv X pins σ H s)(rv:bK vs its)(hrep:aJ X.K H (rows.map .tuple) vs)(h2:2<=rows.length)(h64:rows.length<64)
 (hsh:∀r∈rows,r.all SeqAt.shaped=true/\cY r=true) (hknd:kI rows=true\/qX rows=true) (hlt:∀i j,i<rows.length->j<rows.length->(dH (rows.getD i []) (rows.getD j [])).isSome=true)
 (q:∀l,H l=none->Q (.ref l) (upd H l (.lst ((dY (eV rows) rows.length).map fun i=>vs.getD i .non)))):
 wpAny (model X.prog X.w) A (rN its) (fun fin s'=>∃v,fin=.done (.ret v)/\∃x H',Inv X pins σ H' s'/\RelV x v/\Q x H') E s:=by
 obtain⟨as,hr⟩:=aJ.reads I _ vs its hrep rv;have hlen:its.length=rows.length:=by rw[ReadsAll.len hr,A8]
 obtain⟨m,F⟩:=I.fr;have N:News X.base X.env.locals s.heap (nA X.base s.heap X.env.locals):=MP;unfold rN;refine PySem.W.l2_tail (Q:=fun v s'=>∃x H',Inv X pins σ H' s'/\RelV x v/\Q x H') F N (by omega) (by omega) fun D e1 h' F' N' hD=>?_
 have kp:∀(h1:Heap),Fr X.base X.env.locals h1 m->(∀q∈nA X.base s.heap X.env.locals,h1.get? q.1=some q.2)->∀b o,b≠X.env.locals->s.heap.get? b=some o->h1.get? b=some o:=fun h1 G1 M1 b o hb e=>by
  cases z:X.base.get? b with
  |some v=>
   have:=I.bk b v z;rw[e]at this;cases this;exact G1.keep b _ z
  |none=>exact M1 (b,o) (mQ hb z e)
 have k':=kp h' F' (fun q hq=>(N' q (B1 _ hq)).1)
 have hsz:s.heap.get? D=none:=by
  have hN:=N' _ B3;cases e:s.heap.get? D with
  |none=>rfl
  |some o=>exact absurd (hD (D,o) (mQ hN.2.1 hN.2.2 e)) (F6 _)
 have seqL:∀b o vs n,s.heap.get? b=some o->o.data=.seq vs n->b≠X.env.locals:=fun b o vs n e d z=>by
  obtain⟨o',es,ep,x1,x2,_⟩:=F.ns;subst z;rw[e]at x1;cases x1;rw[d]at x2;cases x2
 have onl:cY (rows.map .tuple)=true:=by
  clear hrep hr hlen q hknd hlt h2 h64
  induction rows with
  |nil=>rfl
  |cons x r ih=>
   show(cY x&&cY (r.map .tuple))=true;rw[(hsh x B3).2,ih fun y hy=>hsh y (B1 _ hy)];rfl
 have hr':ReadsAll h' its (rows.map .tuple) as:=SM (fun b o vs n e d=>k' b o (seqL b o vs n e d) e) _ _ _ onl hr;refine GO (s:={ s with heap:=h' }) hr' (by omega) hknd ?_;rw[hlen];refine KS.wp (lt:=eV rows) (n:=rows.length) (fun i j C hi hj c=>?_) (fun p hp'=>?_) ((IR (by omega)).ks (lt:=eV rows))
 .have at_:∀i,i<rows.length->∃bs,Reads h' (its.getD i .none) (.tuple (rows.getD i [])) bs:=fun i hi=>by
   obtain⟨bs,x⟩:=ReadsAll.at i hr' (by simpa using hi)
   have:(rows.map PyData.tuple).getD i .none=.tuple (rows.getD i []):=by
    rw[C2,D5,C2,B5 hi];rfl
   rw[this]at x;exact⟨bs,x⟩
  obtain⟨b1,r1⟩:=at_ i hi;obtain⟨b2,r2⟩:=at_ j hj
  have mem:∀i,i<rows.length->rows.getD i []∈rows:=fun i hi=>by
   rw[C2,B5 hi];exact L8 hi
  have hd:kI rows=true->∀r∈rows,r.head?.all isI=true:=fun z r hr=>by
   unfold kI at z;have:=List.all_eq_true.mp z r hr;cases r with
   |nil=>rfl
   |cons d ds=>cases d<;>first|rfl|exact absurd this (by intro z;cases z)
  obtain⟨c0,hc0⟩:=Option.isSome_iff_exists.mp (hlt i j hi hj);have hc:eV rows i j=c0:=by unfold eV;rw[hc0];rfl
  rw[hc]at c;exact YC (s:={ s with heap:=h' }) hu r1 r2 (hsh _ (mem i hi)).1 (hsh _ (mem j hj)).1 hc0 (fun z=>⟨hd z _ (mem i hi),hd z _ (mem j hj)⟩) c
 .obtain⟨e,_⟩:=hp';subst e;refine PySem.W.KasFin.intro F' N' (.head fun q hq=>B6 (hD q hq)) fun h'' c F'' N''=>?_;have k'':=kp h'' F'' (fun q hq=>(N'' q (B1 _ hq)).1);refine⟨.ref D,upd H D (.lst ((dY (eV rows) rows.length).map fun i=>vs.getD i .non)),?_,rfl,q D (I.hok.none hsz)⟩;refine I.laidL k'' (fun m' hm'=>?_) hsz ⟨?_,_,c,yS rv _,(N'' _ B3).1⟩
  .rw[<- UR F.ns hm'];exact F''.ns
  .rw[A8,(mI (eV rows) (by omega)).length_eq,List.length_range];have:64<=sizeLine:=by decide
   omega
theorem aHM{A:Around}{vs:List V}{its:List Value}{Q:VK}(I:Inv X pins σ H s)(rv:bK vs its)(h2:vs.length<2)(q:∀l,H l=none->Q (.ref l) (upd H l (.lst vs))):
 wpAny (model X.prog X.w) A (rN its) (fun fin s'=>∃v,fin=.done (.ret v)/\∃x H',Inv X pins σ H' s'/\RelV x v/\Q x H') E s:=by
 have hl:=rv.length;have hz:its.length<=sizeLine:=by rw[E1];omega
 unfold rN;refine A0 (wpAny_newList ?_ hz);refine A0 (E2 ?_);have gD:(s.heap.push { cls:=.type "list",data:=.seq its.toArray }).get? s.heap.objs.size=some (seqObj "list" its.toArray 0):=B7 _ rfl;refine J3 slot_list_sort ⟨_,gD,rfl⟩ entry_list_sort (qR gD (by omega) ⟨_,rfl,?_⟩) (args_list_sort _)
 obtain⟨c,gg⟩:∃c,(sortedHeap (s.heap.push { cls:=.type "list",data:=.seq its.toArray }) s.heap.objs.size its its.toArray).get? s.heap.objs.size=some (seqObj "list" its.toArray c):=by
  unfold sortedHeap;have g1:=Y3 gD (fun _=>#[]);have g2:=A2 (seqObj "tuple" its.toArray 0) g1;have g3:=A2 (seqObj "list" #[] 0) g2;exact⟨_,Y3 g3 (fun _=>its.toArray)⟩
 refine A6 ⟨_,rfl,.ref s.heap.objs.size,upd H s.heap.objs.size (.lst vs),I.laid (t':=s.toks) (fun b o e=>?_) (A7 _) ⟨by omega,its,c,rv,gg⟩,rfl,q _ (I.hok.fresh (A7 _))⟩
 .have hb:b≠s.heap.objs.size:=B6 (B0 e);unfold sortedHeap;rw[U6 _ _ _ _ hb];refine A2 _ (A2 _ ?_);rw[U6 _ _ _ _ hb];exact A2 _ e
theorem aID{vs:List V}{its:List Value}{Q:VK}(hu:A.in1.units+64<cLine)(I:Inv X pins σ H s)(rv:bK vs its)(h:aAv X.K vs H Q):
 wpAny (model X.prog X.w) A (rN its) (fun fin s'=>∃v,fin=.done (.ret v)/\∃x H',Inv X pins σ H' s'/\RelV x v/\Q x H') E s:=by
 rcases h with⟨rows,a,b,c,d,e,f,g⟩|⟨a,b⟩
 .exact aIq hu I rv a b c d e f g
 .exact aHM I rv a b
noncomputable def wO:List (V×V)->Hp->(List V->Hp->Prop)->Prop
 |[],H,k=>k [] H
 |(x,y)::r,H,k=>∀p,H p=none->wO r (upd H p (.tup [x,y])) fun vs H2=>k (.ref p::vs) H2
theorem Inv.trackT{e:Addr}{vs:List V}{its:List Value}{n:Nat}(I:Inv X pins σ H s)(he:s.heap.get? e=some { cls:=.type "tuple",data:=.seq its.toArray n })(rv:bK vs its)(hz:vs.length<=sizeLine)(hn:H e=none)(h0:X.s₀.heap.get? e=none)(hp:∀p∈X.pn++pins,p.1≠e):
 Inv X pins σ (upd H e (.tup vs)) s:=by
 have ne:∀b u,H b=some u->b≠e:=fun b u z=>aQ z hn
 have nd:∀b (o:Obj),s.heap.get? b=some o->(∀vs n,o.data≠.seq vs n)->b≠e:=fun b o q z w=>by
  subst w;rw[he]at q;cases q;exact z _ _ rfl
 refine⟨I.ok,I.os,I.bare,⟨I.base.keep,I.base.slot,fun b o q n hx=>?_,I.base.there,fun b xs q=>?_,fun b o u q=>?_,fun b ps q=>?_⟩,I.loc,I.cell,?_,fun x c q=>?_,fun p h=>?_,fun b u q=>?_,I.len⟩
 .rw[aL (fun z=>by rw[z,h0]at q;cases q)];exact I.base.free b o q n hx
 .have:=I.base.tups b xs q;rw[aL (ne _ _ this)];exact this
 .have:=I.base.frzs b o u q;rw[aL (ne _ _ this)];exact this
 .obtain⟨more,this⟩:=I.base.tbls b ps q;exact⟨more,by rw[aL (ne _ _ this)];exact this⟩
 .obtain⟨m,⟨o,es,ep,ho,hd,_⟩,_⟩:=I.loc;rw[aL (nd _ o ho fun vs n z=>by rw[hd]at z;cases z)];exact I.free
 .obtain⟨v,o,ho,hd⟩:=I.cell x c q;rw[aL (nd _ o ho fun vs n z=>by rw[hd]at z;cases z)];exact I.freeC x c q
 .obtain⟨q1,q2,q3⟩:=I.pin p h;exact⟨q1,by rw[aL (hp p h)];exact q2,q3⟩
 .by_cases hb:b=e
  .subst hb;rw[aR]at q;cases q;exact⟨hz,its,rv,⟨_,he,rfl,n,rfl⟩⟩
  .rw[aL hb]at q;exact(I.hok b u q).stay (fun _ _ _ z=>z) (fun c z=>by rw[aL (ne _ _ z)];exact z) fun c xs z=>by rw[aL (ne _ _ z)];exact z
theorem TH:∀{ps:List (V×V)}{us:List (Value×Value)}{as:List Addr}{H:Hp}{k:List V->Hp->Prop},Inv X pins σ H s->Paired (fun p q=>RelV p.1 q.1/\RelV p.2 q.2) ps us->as.length=us.length->as.Pairwise (·<·)->(∀a∈as,H a=none)->
 (∀(j:Nat)(a:Addr),as[j]?=some a->∃p,us[j]?=some p/\s.heap.get? a=some { cls:=.type "tuple",data:=.seq #[p.1,p.2] })->(∀a∈as,X.s₀.heap.get? a=none/\∀p∈X.pn++pins,p.1≠a)->wO ps H k->∃H2,Inv X pins σ H2 s/\k (as.map .ref) H2
 |[],us,as,H,k=>fun I r hl _ _ _ _ h=>by
  cases r;have:as=[]:=List.eq_nil_of_length_eq_zero hl;subst this;exact⟨H,I,h⟩
 |(x,y)::ps,us,as,H,k=>fun I r hl hp hn hg h0 h=>by
  cases r with
  |@cons _ q _ us' r1 r2=>
   match as,hl,hp,hn,hg,h0 with
   |a::as',hl,hp,hn,hg,h0=>
    obtain⟨p,e1,e2⟩:=hg 0 a rfl;have e1:some q=some p:=e1;cases e1;obtain⟨p1,p2⟩:=List.pairwise_cons.mp hp;have I1:=I.trackT (e:=a) (vs:=[x,y]) (its:=[q.1,q.2]) e2 (.cons r1.1 (.cons r1.2 .nil)) (by show 2<=sizeLine;rw[E1];decide) (hn a B3) (h0 a B3).1 (h0 a B3).2;have hl':as'.length=us'.length:=Nat.succ.inj hl;obtain⟨H2,I2,hk⟩:=TH (as:=as') (k:=fun vs H2=>k (.ref a::vs) H2) I1 r2 hl' p2 (fun b hb=>by rw[aL (F7 (p1 b hb))];exact hn b (B1 _ hb)) (fun j b hb=>hg (j+1) b hb) (fun b hb=>h0 b (B1 _ hb)) (h a (hn a B3));exact⟨H2,I2,hk⟩
noncomputable def aAs(K:Fg)(td:TE):TE:=fun σ H Q=>td σ H fun x H1=>∃a kvs,x=.ref a/\H1 a=some (.dT kvs) /\
 ∀bs:List Addr,Paired (fun(b:Addr)(kv:List Key×V)=>H1 b=some (.tup (kv.1.map kV))) bs kvs->wO ((bs.zip kvs).map fun p=>(.ref p.1,p.2.2)) H1 fun vs H2=>aAv K vs H2 Q
end
section
variable{X:Cx}{o:Expr}{td:TE}{pos apos cpos p:Pos}
theorem KT.addrs{H:Hp}:∀{kvs:List (List Key×V)}{xs:List (List Key×Addr×Value)},KT H kvs xs->Paired (fun(b:Addr)(kv:List Key×V)=>H b=some (.tup (kv.1.map kV))) (xs.map fun x=>x.2.1) kvs /\
 Paired (fun(p:V×V)(q:Value×Value)=>RelV p.1 q.1/\RelV p.2 q.2) (((xs.map fun x=>x.2.1).zip kvs).map fun p=>(V.ref p.1,p.2.2)) (xs.map fun x=>(Value.ref x.2.1,x.2.2))
 |_,_,.nil=>⟨.nil,.nil⟩
 |_,_,.cons r1 r2=>⟨.cons r1.2.1 (KT.addrs r2).1,.cons ⟨rfl,r1.2.2⟩ (KT.addrs r2).2⟩
theorem ZT(hu:X.A.in1.in1.units+64<cLine)(hc:X.calm=true)(hg:Gl X "sorted")(hm:X.mg "sorted"=none)(ho:PE X o td)(hb:attributeBase o "items" X.env (eval o X.env)=eval o X.env)(hline:(apos.endLine==cpos.line)=true):
 PE X (.Call (.Name "sorted" p) [.Call (.Attribute o "items" apos) [] [] cpos] [] pos) (aAs X.K td):=by
 sleep 10;refine J2 (wA I hg hm boot_sorted ?_ (by decide) (by decide));refine PyProof.Rows.callWith_builtin1 ?_ rfl rfl;show wpAny _ _ (spliced ((false,eval (.Call (.Attribute o "items" apos) [] [] cpos) X.env)::[])) _ _ s;refine Calls.spliced_cons ?_;refine wpAny_Call_method (T:="dict") (id:="dict.items") hb rfl hline PySem.F.plainAttrs_dict PySem.F.slot_dict_items PySem.F.type_dict_items (thn (ho pins s σ H _ I h) fun u s1 ⟨x,H1,I1,rx,a,kvs,ex,ea,q⟩=>?_);subst ex;obtain rfl:u=Value.ref a:=rx;obtain⟨z,hs,xs,r,od,es,ep,h1,h2,h3,h4,h5⟩:=(show dM X.prog X.w H1 s1.heap a (.dT kvs)from I1.hok a _ ea);have hT:s1.TypeIs (.ref a) "dict":=⟨od,h1,h2.1⟩;refine⟨hT,fun b e=>by cases e;exact⟨od,h1,h2.2.1⟩,?_⟩;show wpAny _ _ (callWith cpos (.builtin "dict.items") [.ref a] [] []) _ _ s1;refine method_meetsIn PySem.F.slot_dict_items PySem.F.entry_dict_items rfl (PySem.evalArgs_none ⟨rfl,hT,PySem.F.args_dict_items_1 _,_,QK a hs,hT,?_⟩);refine Calls.spliced_nil ?_;have I2:Inv X pins σ H1 { s1 with heap:=s1.heap.push { cls:=.type "dict_items",data:=.fields #[.ref a] } }:=I1.kept (t':=s1.toks) fun b o e=>A2 _ e;have hv:(s1.heap.push { cls:=.type "dict_items",data:=.fields #[.ref a] }).IsItemsView s1.heap.objs.size a:=⟨_,B7 _ rfl,rfl,rfl⟩;have hat:Raw (s1.heap.push { cls:=.type "dict_items",data:=.fields #[.ref a] }) a es ep:=⟨od,A2 _ h1,h3⟩;have hzs:es.size=xs.length:=by rw[<- Y5,h4,A8]
 have hl:kvs.length=xs.length:=Paired.len r;refine Calls.call_function_entry kind_sorted plain_sorted entry_sorted (args_sorted1 _) ?_;unfold Builtin.«sorted»;refine A0 (m:=checkCount "sorted" 1 1 _) (A6 ?_);refine A0 (VR (A:=X.A.in1) (I.ok.hd hc) hv hat (by rw[hzs,<- hl];exact z) fun h' tk as hk hal hG=>?_);have I3:Inv X pins σ H1 { s1 with heap:=h',toks:=tk }:=I2.kept hk;obtain⟨pk1,pk2⟩:=KT.addrs r;have hge:∀b∈as,s1.heap.objs.size<b:=fun b hb=>O1 (show s1.heap.objs.size<(s1.heap.push { cls:=.type "dict_items",data:=.fields #[.ref a] }).objs.size by rw[O4];exact F5 _) (hG.above b hb)
 obtain⟨H2,I4,hk2⟩:=TH (as:=as) (s:={ s1 with heap:=h',toks:=tk }) I3 pk2 (by rw[hal,hzs,A8]) hG.rise (fun b hb=>I1.hok.fresh (S5 (hge b hb))) (fun j b hj=>by
  obtain⟨e,e1,e2⟩:=hG.duos j b hj;refine⟨(e.key,e.val),?_,e2⟩;rw[<- Array.getElem?_toList,h4,D5]at e1;rw[D5];cases c:xs[j]?<;>rw[c]at e1<;>cases e1;rfl) (fun b hb=>⟨S9 (C8 I1.sz (S5 (hge b hb))),fun p hp=>B6 (O1 (B0 (I1.pin p hp).1) (hge b hb))⟩) (q _ pk1)
 exact aID (A:=X.A.in1) hu I4 (its:=as.map Value.ref) (by
  clear hk2 hG hal hge
  induction as with
  |nil=>exact .nil
  |cons b as ih=>exact .cons rfl ih) hk2
end
section
variable{K:Fg}{td:TE}{fo:EF}
theorem Good.adopt{b:Addr}{us:List V}(G:Good K W M H)(hb:H b=some (.tup us)):W.Ext { W with F:=upd W.F b (.tup us) }/\Good K { W with F:=upd W.F b (.tup us) } M H:=by
 have ff:jO W.F (upd W.F b (.tup us)):=fun c o hc=>by
  by_cases q:c=b
  .subst q;have:=G.fh _ _ hc;rw[hb]at this;cases this;exact aR
  .rw[aL q];exact hc
 have e:W.Ext { W with F:=upd W.F b (.tup us) }:=⟨ff,A7 _,fun _ _=>rfl⟩;refine⟨e,fun c o hc=>?_,G.n,fun i c hi hc=>?_,G.inj⟩
 .have hc:upd W.F b (.tup us) c=some o:=hc;by_cases q:c=b
  .subst q;rw[aR]at hc;cases hc;exact hb
  .rw[aL q]at hc;exact G.fh c o hc
 .obtain⟨h1,o,h2,h3⟩:=G.cs i c hi hc
  have ne:W.α i≠b:=fun q=>by
   rw[q,hb]at h2;cases h2;cases c<;>exact False.elim h3
  exact⟨by show upd W.F b (.tup us) (W.α i)=none;rw[aL ne];exact h1,o,h2,h3.up e⟩
noncomputable def LV(kv:List Key×PyData):List PyData:=[.tuple (kv.1.map aAq),kv.2]
noncomputable def HJ:List (List Key×CD)->Option (List (List Key×PyData))
 |[]=>some []
 |(k,.d x)::r=>(HJ r).bind fun q=>some ((k,x)::q)
 |_=>none
noncomputable def tG(rows:List (List PyData)):Option (List PyData):=if sortable rows=true then some (FU rows)else if rows.length<2 then some (rows.map .tuple)else none
noncomputable def zD(fo:EF):EF:=fun γ M=>(fo γ M).bind fun o=>match o.1 with
 |.c i=>match o.2[i]? with
  |some (.dt kvs)=>(HJ kvs).bind fun ds=>(tG (ds.map LV)).bind fun r=>some (.d (.list r),o.2)
  |_=>none
 |_=>none
theorem UK{H:Hp}:∀ks:List Key,aJ K H (ks.map aAq) (ks.map kV)
 |[]=>rfl
 |k::ks=>⟨_,_,rfl,by cases k<;>rfl,UK ks⟩
theorem GK{M:Sto}{H:Hp}:∀{bs:List Addr}{kvs:List (List Key×V)}{W:Wd},Good K W M H->Paired (fun(b:Addr)(kv:List Key×V)=>H b=some (.tup (kv.1.map kV))) bs kvs->∃W',W.Ext W'/\Good K W' M H/\Paired (fun(b:Addr)(kv:List Key×V)=>W'.F b=some (.tup (kv.1.map kV))) bs kvs
 |_,_,W,G,.nil=>⟨W,.refl _,G,.nil⟩
 |_,_,W,G,.cons h1 h2=>by
  obtain⟨e1,G1⟩:=G.adopt h1;obtain⟨W2,e2,G2,p2⟩:=GK G1 h2;exact⟨W2,e1.trans e2,G2,.cons (e2.ff _ _ aR) p2⟩
theorem MZ{M:Sto}:∀{bs:List Addr}{ds:List (List Key×PyData)}{kvs:List (List Key×V)}{W:Wd}{H:Hp}{k:List V->Hp->Prop},Good K W M H->Paired (fun(b:Addr)(kv:List Key×V)=>W.F b=some (.tup (kv.1.map kV))) bs kvs->Paired (fun(p:List Key×PyData)(q:List Key×V)=>p.1=q.1/\Rep K W.F p.2 q.2) ds kvs->
 (∀vs W' H',W.Ext W'->Good K W' M H'->aJ K W'.F ((ds.map LV).map .tuple) vs->k vs H')->wO ((bs.zip kvs).map fun p=>(.ref p.1,p.2.2)) H k
 |_,_,_,W,H,k,G,.nil,.nil=>fun c=>c [] W H (.refl _) G rfl
 |b::bs,(ks,d)::ds,(ks',v)::kvs,W,H,k,G,.cons h1 h2,.cons q1 q2=>fun c=>by
  obtain⟨rfl,rd⟩:=(show ks=ks'/\Rep K W.F d v from q1);intro p hp;obtain⟨e1,G1⟩:=G.lay (o:=.tup [.ref b,v]) hp;refine MZ G1 (Paired.mapP h2 fun _ _ r=>e1.ff _ _ r) (Paired.mapP q2 fun _ _ r=>⟨r.1,Rep.same e1.ff _ _ r.2⟩) fun vs W2 H2 e2 G2 r2=>?_;refine c _ W2 H2 (e1.trans e2) G2 ⟨_,_,rfl,⟨p,_,rfl,SqT.of (e2.ff _ _ aR),?_⟩,r2⟩;exact⟨_,_,rfl,⟨b,_,rfl,SqT.of ((e1.trans e2).ff _ _ h1),UK ks⟩,_,_,rfl,Rep.same (e1.trans e2).ff _ _ rd,rfl⟩
theorem GP{W:Wd}:∀{kvs:List (List Key×CD)}{ds:List (List Key×PyData)}{us:List (List Key×V)},HJ kvs=some ds->PKV K W kvs us->Paired (fun(p:List Key×PyData)(q:List Key×V)=>p.1=q.1/\Rep K W.F p.2 q.2) ds us
 |[],_,_,h,.nil=>by cases h;exact .nil
 |(k,.d x)::r,_,_,h,.cons r1 r2=>by
  obtain⟨q,h1,h⟩:=aG (show(HJ r).bind _=_ from h);cases h;exact .cons r1 (GP h1 r2)
 |(k,.c _)::r,_,_,h,_=>by cases h
theorem YE(a:SE K td fo):SE K (aAs K td) (zD fo):=by
 sleep 0;obtain⟨⟨o,M1⟩,h1,hh⟩:=aG hh;revert hh;dsimp only;split
 .rename_i i;split
  .rename_i kvs hk;intro hh;obtain⟨ds,h2,hh⟩:=aG hh;obtain⟨r,h3,hh⟩:=aG hh;cases hh;sleep 1;obtain⟨us,hu,pu⟩:=G1.dtAt hk;refine⟨_,us,r1.2,hu,fun bs pb=>?_⟩;obtain⟨W2,e2,G2,p2⟩:=GK G1 pb;refine MZ G2 p2 (Paired.mapP (GP h2 pu) fun _ _ r=>⟨r.1,Rep.same e2.ff _ _ r.2⟩) fun vs W3 H3 e3 G3 r3=>?_;have e13:=(e1.trans e2).trans e3;unfold tG at h3;by_cases hs:sortable (ds.map LV)=true
   .rw[A3 hs]at h3;cases h3;obtain⟨s1,s2,s3,s4,s5⟩:=kL hs;refine .inl ⟨ds.map LV,aJ.same G3.fh _ _ r3,s1,s2,s3,s4,s5,fun l hl=>?_⟩;obtain⟨e4,G4⟩:=G3.lay (o:=.lst ((dY (eV (ds.map LV)) (ds.map LV).length).map fun i=>vs.getD i .non)) hl;exact k _ _ _ (e13.trans e4) G4 ⟨l,_,rfl,SqL.of aR,aJ.same e4.ff _ _ (wN r3 _ (YF (by omega)))⟩
   .rw[A5 hs]at h3;by_cases hl2:(ds.map LV).length<2
    .rw[A3 hl2]at h3;cases h3;refine .inr ⟨by rw[<- r3.length,A8];exact hl2,fun l hl=>?_⟩;obtain⟨e4,G4⟩:=G3.lay (o:=.lst vs) hl;exact k _ _ _ (e13.trans e4) G4 ⟨l,_,rfl,SqL.of aR,aJ.same e4.ff _ _ r3⟩
    .rw[A5 hl2]at h3;cases h3
  .intro hh;cases hh
 .intro hh;cases hh
theorem aCo{ι:Type}{X:ι->Cx}{o:Expr}{f:EF}{pos apos cpos p:Pos}(hK:∀i,(X i).K=K)(hu:∀i,(X i).A.in1.in1.units+64<cLine)(hc:∀i,(X i).calm=true)(hm:∀i,(X i).mg "sorted"=none)(x:ME K X o f)(hg:∀i,Gl (X i) "sorted":=by intro _;rfl)
 (hb:∀env:Env,attributeBase o "items" env (eval o env)=eval o env:=by intro _;rfl) (hline:(apos.endLine==cpos.line)=true:=by rfl):ME K X (.Call (.Name "sorted" p) [.Call (.Attribute o "items" apos) [] [] cpos] [] pos) (zD f):=by
 sleep 2;exact⟨_,fun i=>by have:=ZT (p:=p) (pos:=pos) (apos:=apos) (cpos:=cpos) (hu i) (hc i) (hg i) (hm i) (x1 i) (hb _) hline;rw[hK i]at this;exact this,YE x2⟩
end
section
variable{K:Fg}
theorem Good.freezeL{i:Nat}{xs:List CD}{ds:List PyData}(G:Good K W M H)(hi:M[i]?=some (.lst xs))(hd:iQ xs=some ds):
 ∃W',W.Ext W'/\Good K W' (M.set i .dead) H/\W'.α i=W.α i/\cF K W' (.d (.list ds)) (.ref (W.α i)):=by
 obtain⟨vs,hv,rv⟩:=G.lstAt hi;obtain⟨hn,_⟩:=G.cs i _ hi (by intro q;cases q);have lt:i<M.length:=(List.getElem?_eq_some_iff.mp hi).1;have e:W.Ext { W with F:=upd W.F (W.α i) (.lst vs) }:=⟨jO.upd hn,A7 _,fun _ _=>rfl⟩
 have at_:∀j d,(M.set i .dead)[j]?=some d->d≠.dead->j≠i/\M[j]?=some d:=fun j d h hd=>by
  by_cases q:i=j
  .subst q;rw[E3 lt]at h;exact absurd (D2 h).symm hd
  .rw[D4 q]at h;exact⟨fun z=>q z.symm,h⟩
 refine⟨_,e,⟨fun c o hc=>?_,by show W.n=_;rw[G.n,U1],fun j d hj hd=>?_,fun j k d1 d2 hj hk e1 e2 he=>?_⟩,rfl,⟨_,vs,rfl,SqL.of aR,aJ.same e.ff _ _ (dO hd rv)⟩⟩
 .have hc:upd W.F (W.α i) (.lst vs) c=some o:=hc;by_cases q:c=W.α i
  .subst q;rw[aR]at hc;cases hc;exact hv
  .rw[aL q]at hc;exact G.fh c o hc
 .obtain⟨q,h⟩:=at_ j d hj hd;obtain⟨k1,u,k2,k3⟩:=G.cs j d h hd;have ne:W.α j≠W.α i:=fun z=>q (G.inj j i d _ h hi hd (by intro z;cases z) z);exact⟨by show upd W.F (W.α i) (.lst vs) (W.α j)=none;rw[aL ne];exact k1,u,k2,k3.up e⟩
 .exact G.inj j k d1 d2 (at_ j d1 hj e1).2 (at_ k d2 hk e2).2 e1 e2 he
noncomputable def fFreeze(f:EF):EF:=fun γ M=>(f γ M).bind fun r=>match r.1 with
 |.c i=>match r.2[i]? with
  |some (.lst xs)=>(iQ xs).bind fun ds=>some (.d (.list ds),r.2.set i .dead)
  |_=>none
 |.d x=>some (.d x,r.2)
 |_=>none
noncomputable def ET:FN:=fun xs M=>match xs with
 |[.d a]=>(aW a).bind fun ds=>some (.c M.length,M++[.lst (ds.map .d)])
 |[.c i]=>match M[i]? with
  |some (.lst ys)=>some (.c M.length,M++[.lst ys])
  |_=>none
 |_=>none
theorem aAw:PN K (QY K) ET:=by
 intro xs M z M' h W H vs Q G r k;unfold ET at h;split at h
 .rename_i a;obtain⟨ds,h1,h⟩:=aG h;cases h;sleep 12;obtain⟨p,us,rfl,hs,hr⟩:=jT (show Rep K W.F a _ from r1) h1;refine⟨p,us,rfl,hs.elim (fun q=>.inl (G.fh.seq q)) (fun q=>.inr (G.fh.seqT q)),fun l hl=>?_⟩;exact k _ (W.more l) _ (W.ext_more l) (G.new hl (c:=.lst (ds.map .d)) (o:=.lst us) (kN hr)) G.newV
 .rename_i i;split at h
  .rename_i ys hy;cases h;sleep 12;obtain⟨us,hv,hr⟩:=G.lstAt hy;refine⟨_,us,by rw[r1.2],.inl (SqL.of hv),fun l hl=>?_⟩;exact k _ (W.more l) _ (W.ext_more l) (G.new hl (c:=.lst ys) (o:=.lst us) hr) G.newV
  .cases h
 .cases h
theorem aDP{ι:Type}{X:ι->Cx}(hK:∀i,(X i).K=K):QN K X (.type "list") ET:=⟨_,fun i=>aFB (hK i),aAw⟩
end
section
variable{X:Cx}{pins:List (Addr×Obj)}{σ:St}{H:Hp}{s:Shared}{a:Addr}{y v:V}{u r:Value}{A:Around}{E:Value->Shared->Prop}
theorem WW{H':Hp}{Q:Unit->Shared->Prop}(hu:A.units<cLine)(I:Inv X pins σ H s)(g:DR H a y v H')(ry:RelV y u)(rv:RelV v r)(h:∀s',Inv X pins σ H' s'->Q () s'):
 wpAny (model X.prog X.w) A (dictSet a u r) Q E s:=by
 rcases g with⟨kvs,k,e,ey,l,eH⟩|⟨kvs,k,b,e,ey,eb,l,eH⟩
 .subst ey eH;obtain⟨z,hd,vs,rel,dd⟩:=aBw I.hok e;have hz:vs.length<=sizeLine:=by rw[<- rel.length];exact z
  have hl:(putK kvs k v).length<=sizeLine:=by have:=kK kvs k v;omega
  refine wpAny_dictSet_pairs (hsz:=hz) (NA ry) dd fun h' dd' hs=>h _ ?_;have he:∃q,h'.get? a=some q:=let⟨q,_,_,hq,_⟩:=dd';⟨q,hq⟩;exact xK I (by rw[e];exact True.intro) hs he (QP hl hd (rel.put k rv) dd')
 .subst ey eH;cases (show u=Value.ref b from ry);obtain⟨z,hd,xs,rel,dd⟩:=aFe I.hok e;have hz:xs.length<=sizeLine:=by rw[<- Y9 rel];exact z
  have hl:(putK kvs k v).length<=sizeLine:=by have:=kK kvs k v;omega
  refine wpAny_dictSet_heap (hsz:=hz) hu (IF I.hok eb) dd fun h' dd' hs=>h _ ?_;obtain⟨q,es,ep,hq,h2,h3,h4,_,h5⟩:=dd';refine xK I (by rw[e];exact True.intro) hs ⟨q,hq⟩ ⟨hl,hd,_,(rel.put k eb rv).keeps fun c ys ec=>?_,q,es,ep,hq,h2,h3,h4,h5⟩;rw[aL (zW ec e (fun z=>nomatch z))];exact ec
end
section
variable{prog:Program}{w:World}{A:Around}{R:Result->Shared->Prop}{s:Shared}
theorem aDY{kx vx target iter:Expr}{ifs:List Expr}{scope:Scope}{pos:Pos}{it:Value}{D:Addr}{env:Env}(I:Nat->Shared->Prop)
 (turn:∀n s,I n s->wpAny (model prog w) A (pyNext it) (fun r s1=>(r=none/\R (.ok .next) s1)\/∃v,r=some v /\
  wpAny (model prog w) A (letOwnedTupleGo target it v) (fun _ s2=>wpAny (model prog w) A (assign target env v) (fun _ s3=>
   wpAny (model prog w) A (forIn ifs true fun c r=>if r=true then(do
    let ok <- isTrue c env (eval c env)
    pure (ForInStep.yield ok))else pure (ForInStep.yield r)) (fun ok s4=>
     (ok=true/\wpAny (model prog w) A (eval kx env) (fun kv s5=>wpAny (model prog w) A (eval vx env) (fun vv s6=>wpAny (model prog w) A (dictSet D kv vv) (fun _ s7=>∃m,m<n/\I m s7) (fun _ _=>False) s6) (fun _ _=>False) s5) (fun _ _=>False) s4) \/
     (ok=false/\∃m,m<n/\I m s4)) (fun _ _=>False) s3) (fun _ _=>False) s2) (fun _ _=>False) s1) (fun _ _=>False) s)
 (n:Nat) (h:I n s):codeAny (model prog w) A (.compLoop (.DictComp kx vx [⟨target,iter,ifs,0⟩] scope pos) 0 it (.ref D) env) R s:=by
 refine codeAny_loop rfl I (fun n s hI=>?_) n h
 show wpAny _ A ((compTurn (.DictComp kx vx [⟨target,iter,ifs,0⟩] scope pos) 0 it (.ref D) env).onRaise fun x=>do
  noteFrame x env
  theTreesLotGoes x) _ _ s
 refine wpAny_noted ?_;rw[compTurn_dict];refine A0 (S4 (A0 (D8 (turn n s hI) (fun r s1 h1=>?_) fun _ _ f=>f.elim)));rcases h1 with⟨rfl,h1⟩|⟨v,rfl,h1⟩
 .exact A6 h1
 .refine A0 (D8 h1 (fun _ s2 h2=>?_) fun _ _ f=>f.elim);refine A0 (D8 h2 (fun _ s3 h3=>?_) fun _ _ f=>f.elim);refine A0 (D8 h3 (fun ok s4 h4=>?_) fun _ _ f=>f.elim);rcases h4 with⟨rfl,h4⟩|⟨rfl,h4⟩
  .refine A0 (A0 (D8 h4 (fun kv s5 h5=>?_) fun _ _ f=>f.elim));refine A0 (E2 (D8 h5 (fun vv s6 h6=>?_) fun _ _ f=>f.elim));refine A0 (S4 (E2 (D8 h6 (fun _ s7 h7=>A6 ⟨rfl,h7⟩) fun _ _ f=>f.elim)))
  .exact A6 ⟨rfl,h4⟩
end
noncomputable def tDc(o0:HO)(cap:List (Option Nat))(wi:TI)(g:TG)(tc:TT)(tk tv:TE):TE:=fun σ H Q=>wi σ H fun J H1=>∀D,H1 D=none->∃W:Nat->Nat->St->Hp->Prop,(∃m,W 0 m (AG cap σ) (upd H1 D o0))/\∀i m σ' H',W i m σ' H'->
 (J.stop i H'/\Q (.ref D) H') \/
 (J.go i H'/\∃N:St->Hp->Prop,(∀σ2 H2,N σ2 H2->∃m',m'<m/\W (i+1) m' σ2 H2)/\∀x H2,J.yld i H' x H2->g x σ' H2 fun σ2 H3=>tc σ2 H3 fun b H4=>(b=true/\tk σ2 H4 fun y H5=>tv σ2 H5 fun v H6=>∃H7,DR H6 D y v H7/\N σ2 H7)\/(b=false/\N σ2 H4))
section
variable{X:Cx}{N':List Str}{cap:List (Option Nat)}{scope:Scope}
theorem aGA{o0:HO}(ho:o0=.dT []\/o0=.dK []){kx vx tg iter:Expr}{ifs:List Expr}{pos:Pos}{wi:TI}{g:TG}{tc:TT}{tk tv:TE}(hu:X.A.units<cLine)(hc:X.calm=true)(S:rC X N' cap scope)(hi:PI X tg iter wi)
 (hg:∀C s H fp pn,PG (gE X N' scope C s H fp pn) tg g) (hif:∀C s H fp pn,NT (gE X N' scope C s H fp pn) ifs tc) (hk:∀C s H fp pn,PE (gE X N' scope C s H fp pn) kx tk) (hv:∀C s H fp pn,PE (gE X N' scope C s H fp pn) vx tv)
 (hs:∀x,foldedSetIterable iter X.env x=pure x) {pins:List (Addr×Obj)} {s:Shared} {σ:St} {H:Hp} {Q:VK} (I:Inv X pins σ H s) (h:tDc o0 cap wi g tc tk tv σ H Q) {use:Option (Value->Sem Unit)} {QQ:Value->Shared->Prop}
 (post:∀(D C:Addr)(H':Hp)(s':Shared),(∃m,s'.heap.Ns C m)->(∀h',Heap.SameBut C s'.heap h'->Inv X pins σ H' { s' with heap:=h' })->uH X pins H' C->Q (.ref D) H'->compPost (model X.prog X.w) X.A X.xe use QQ (.ref D) C (.ok .next) s'):
 wpAny (model X.prog X.w) X.A (comprehension (.DictComp kx vx [⟨tg,iter,ifs,0⟩] scope pos) scope X.env (firstIterPos [⟨tg,iter,ifs,0⟩] pos) newDict false (firstIter [⟨tg,iter,ifs,0⟩] X.env) use) QQ X.xe s:=by
 refine wpAny_comprehension_free (e:=.DictComp kx vx [⟨tg,iter,ifs,0⟩] scope pos) (g:=⟨tg,iter,ifs,0⟩) (gs:=[]) rfl hs (DH (S.cells I.ok)) S.kind S.names ?_;refine thn (hi pins s σ H _ I h) fun v s1 h1=>thn h1 fun itv s2 h2=>?_;obtain⟨it,fp,tn,J,H2,e,I2,T,st2,f2,hD⟩:=h2;subst e
 have fplt2:∀b∈fp,b<s2.heap.objs.size:=fun b hb=>by
  obtain⟨o,e,_⟩:=T.obj _ _ st2 b hb;exact B0 e
 refine D7 ?_;obtain⟨W,⟨m0,w0⟩,turn⟩:=hD s2.heap.objs.size (I2.hok.fresh (A7 _));generalize hDn:s2.heap.objs.size=D at *
 have I3:Inv X pins σ (upd H2 D o0) { s2 with heap:=s2.heap.push { cls:=.type "dict",data:=.dict #[] } }:=by
  refine I2.laid (t':=s2.toks) (fun _ _ q=>A2 _ q) (Nat.le_of_eq hDn) ?_;rcases ho with rfl|rfl
  .rw[<- hDn];exact MC _ I2.big
  .rw[<- hDn];exact DB _ I2.big
 have st3:tn 0 (s2.heap.push { cls:=.type "dict",data:=.dict #[] }):=T.keep _ _ _ st2 fun b _ o e=>A2 _ e
 have f3:∀b∈fp,uH X pins (upd H2 D o0) b:=fun b hb=>by
  obtain⟨q0,q1⟩:=f2 b hb;exact⟨by rw[aL (B6 (fplt2 b hb))];exact q0,q1⟩
 generalize hs3:({ s2 with heap:=s2.heap.push { cls:=.type "dict",data:=.dict #[] } }:Shared)=s3 at I3 ⊢;have st3:tn 0 s3.heap:=by rw[<- hs3];exact st3
 have fplt:∀b∈fp,b<s3.heap.objs.size:=fun b hb=>by
  obtain⟨o,e,_⟩:=T.obj _ _ st3 b hb;exact B0 e
 refine wpAny_newFunctionEnv S.nocell (fun y hy=>by simp at hy) (fun h1' hns hsb=>?_) S.kind;have old:∀b o,s3.heap.get? b=some o->h1'.get? b=some o:=fun b o e=>hsb.extBut b o (B6 (B0 e)) (A2 _ e)
 have I4:Inv (gE X N' scope s3.heap.objs.size s3 (upd H2 D o0) fp pins) [] (AG cap σ) (upd H2 D o0) { s3 with heap:=h1',toks:=s3.toks+([]:List (Str×Value)).length }:=
  NO S I3 f3 fplt (A7 _) (by simpa using hns) old
 have loop:∀s4:Shared,s4={ s3 with heap:=h1',toks:=s3.toks+([]:List (Str×Value)).length }->
  codeAny (model X.prog X.w) X.A (.compLoop (.DictComp kx vx [⟨tg,iter,ifs,0⟩] scope pos) 0 (.ref it) (.ref D) (compEnvC scope (fU X.env scope.names []) s3.heap.objs.size X.env)) (compPost (model X.prog X.w) X.A X.xe use QQ (.ref D) s3.heap.objs.size) s4:=by
  rintro s4 rfl
  have stat:∀{Hx:Hp},(∀b∈fp,Hx b=none)->∀b∈fp,uH (gE X N' scope s3.heap.objs.size s3 (upd H2 D o0) fp pins) [] Hx b:=fun{Hx} hn b hb=>by
   refine⟨hn b hb,B6 (fplt b hb),I3.stkAll (f3 b hb).2.1 (f3 b hb).2.2.1,.inl hb,fun x c e=>(f3 b hb).2.2.2.2.1 x c (S.sub I3.ok x c e),fun p hp=>?_⟩;rcases List.mem_append.mp hp with z|z
   .exact(f3 b hb).2.2.2.2.2 p z
   .exact absurd z (by simp)
  refine aDY (fun n s'=>∃(i:Nat)(σ':St)(H':Hp),Inv (gE X N' scope s3.heap.objs.size s3 (upd H2 D o0) fp pins) [] σ' H' s'/\tn i s'.heap/\(∀b∈fp,H' b=none)/\W i n σ' H') ?_ m0
   ⟨0,AG cap σ,_,I4,T.keep _ _ _ st3 fun b _ o e=>old b o e,fun b hb=>(f3 b hb).1,w0⟩
  rintro n s5 ⟨i,σ',H',I5,t5,fr5,w5⟩;rcases turn i n σ' H' w5 with⟨stop,q⟩|⟨go,N,hN,step⟩
  .refine thn (T.done (gE X N' scope s3.heap.objs.size s3 (upd H2 D o0) fp pins) rfl rfl rfl hc i _ s5 σ' H' _ I5 (stat fr5) t5 stop) fun r s6 ⟨hr,I6⟩=>.inl ⟨hr,?_⟩;have nC:H' s3.heap.objs.size=none:=I6.free;refine post D _ H' s6 (let⟨m,hn,_⟩:=I6.loc;⟨m,hn⟩) (fun h' hs'=>?_) (I3.fpOk (A7 _) nC) q;have up:∀b o,b≠s3.heap.objs.size->s6.heap.get? b=some o->h'.get? b=some o:=fun b o hb e=>hs'.extBut b o hb e;have ltC:∀b o,s3.heap.get? b=some o->b≠s3.heap.objs.size:=fun b o e=>B6 (B0 e);have u6:Un (frs X.stack) fp (upd H2 D o0) H' s3.heap s6.heap:=I6.base
   have u7:Un (frs X.stack) fp (upd H2 D o0) H' s3.heap h':=by
    refine⟨fun b o e n hb hx=>up b o (ltC b o e) (u6.keep b o e n hb hx),fun b o e n hb hx=>?_,u6.free,fun b o e hx=>?_,u6.tups,u6.frzs,u6.tbls⟩
    .obtain⟨sl,q⟩:=u6.slot b o e n hb hx;exact⟨sl,up b _ (ltC b o e) q⟩
    .obtain⟨o',q⟩:=u6.there b o e hx;exact⟨o',up b o' (ltC b o e) q⟩
   have ok7:HOk X.prog X.w H' h':=fun b u e=>by
    refine(I6.hok b u e).stay (fun c v hc' z=>up c v ?_ z) (fun c z=>z) fun c xs z=>z;rcases hc' with rfl|z
    .exact aQ e nC
    .exact aQ z nC
   have os6:s6.os=s3.os:=I6.os;have ba6:=I6.bare;obtain⟨hh,gg,dd,tt,oo⟩:=s6;subst os6;have z7:=I3.call (s:=s3) (h':=h') (g':=gg) (d':=dd) (t':=tt) (ch:=fp) u7 ok7 ba6 fun b hb=>⟨(f3 b hb).2.2.2.1,(f3 b hb).2.1,(f3 b hb).2.2.2.2.1,(f3 b hb).2.2.2.2.2⟩;exact z7
  .refine thn (T.item (gE X N' scope s3.heap.objs.size s3 (upd H2 D o0) fp pins) rfl rfl rfl hc i _ s5 σ' H' _ I5 (stat fr5) t5 go) fun r s6 ⟨u,hr,h6⟩=>.inr ⟨u,hr,?_⟩;refine thn h6 fun _ s7 ⟨x,H7,I7,r7,y7,t7,fr7⟩=>?_;have I7':=I7.pinned (stat fr7) (T.obj _ _ t7)
   have back:∀{σx:St}{Hx:Hp}{sx:Shared},Inv (gE X N' scope s3.heap.objs.size s3 (upd H2 D o0) fp pins) ([]++yW fp s7.heap) σx Hx sx->(∀b∈fp,∀o,s7.heap.get? b=some o->sx.heap.get? b=some o)/\(∀b∈fp,Hx b=none):=fun{σx Hx sx} Ix=>by
    refine⟨fun b hb o e=>(Ix.pin (b,o) (C9 _ (C9 _ (jI hb e)))).1,fun b hb=>?_⟩;obtain⟨o,e,_⟩:=T.obj _ _ t7 b hb;exact(Ix.pin (b,o) (C9 _ (C9 _ (jI hb e)))).2.1
   refine thn (hg _ _ _ _ _ _ s7 σ' H7 x u _ I7' r7 (step x H7 y7)) fun _ s8 ⟨σ8,H8,I8,q8⟩=>?_;refine thn (hif _ _ _ _ _ _ s8 σ8 H8 _ I8 q8) fun b s9 ⟨H9,I9,q9⟩=>?_;rcases q9 with⟨rfl,q9⟩|⟨rfl,n9⟩
   .refine .inl ⟨rfl,thn (hk _ _ _ _ _ _ s9 σ8 H9 _ I9 q9) fun uk s10 ⟨y,H10,I10,ry,q10⟩=>thn (hv _ _ _ _ _ _ s10 σ8 H10 _ I10 q10) fun uv s11 ⟨v,H11,I11,rv,H12,g12,n12⟩=>?_⟩;obtain⟨m',hm,w12⟩:=hN _ _ n12;refine WW (X:=gE X N' scope s3.heap.objs.size s3 (upd H2 D o0) fp pins) hu I11 g12 ry rv fun s12 I12=>?_;obtain⟨b1,b2⟩:=back I12;exact⟨m',hm,i+1,σ8,H12,I12.pins_of fun p hp=>absurd hp (by simp),T.keep _ _ _ t7 b1,b2,w12⟩
   .obtain⟨m',hm,w9⟩:=hN _ _ n9;obtain⟨b1,b2⟩:=back I9;exact .inr ⟨rfl,m',hm,i+1,σ8,H9,I9.pins_of fun p hp=>absurd hp (by simp),T.keep _ _ _ t7 b1,b2,w9⟩
 exact codeAny_compStart_dict (loop _ rfl) (T.self _ 0 _ _ _ (T.keep _ _ _ st3 fun b _ o e=>old b o e) (loop _ rfl))
theorem aIT{o0:HO}(ho:o0=.dT []\/o0=.dK []){kx vx tg iter:Expr}{ifs:List Expr}{pos:Pos}{wi:TI}{g:TG}{tc:TT}{tk tv:TE}(hu:X.A.units<cLine)(hc:X.calm=true)(S:rC X N' cap scope)(hi:PI X tg iter wi)
 (hg:∀C s H fp pn,PG (gE X N' scope C s H fp pn) tg g) (hif:∀C s H fp pn,NT (gE X N' scope C s H fp pn) ifs tc) (hk:∀C s H fp pn,PE (gE X N' scope C s H fp pn) kx tk) (hv:∀C s H fp pn,PE (gE X N' scope C s H fp pn) vx tv)
 (hs:∀x,foldedSetIterable iter X.env x=pure x:=by intro _;rfl):PE X (.DictComp kx vx [⟨tg,iter,ifs,0⟩] scope pos) (tDc o0 cap wi g tc tk tv):=fun pins s σ H Q I h=>
 aGA (use:=none) ho hu hc S hi hg hif hk hv hs I h fun D _ H' _ ⟨m,hn⟩ hI _ q=>⟨m,hn,fun h' hs'=>⟨.ref D,H',hI h' hs',rfl,q⟩⟩
end
noncomputable def dcF(d:Nat)(g:GF)(c:TF)(fk:KF)(e:EF):List CD->Ga->Sto->Option Sto
 |[],_,M=>some M
 |x::xs,γ,M=>(g x γ M).bind fun a=>(c a.1 a.2).bind fun b=>if b.1=true then(fk a.1 b.2).bind fun k=>(e a.1 k.2).bind fun v=>(NR v.2 (.c d) k.1 v.1).bind fun M'=>dcF d g c fk e xs a.1 M' else dcF d g c fk e xs a.1 b.2
noncomputable def fDc(c0:Cell)(cap:List (Option Nat))(f:AF)(g:GF)(c:TF)(fk:KF)(e:EF):EF:=fun γ M=>(f γ M).bind fun r=>(dcF r.2.length g c fk e r.1 (sM cap γ) (r.2++[c0])).bind fun M'=>some (.c r.2.length,M')
section
variable{K:Fg}{tg:TG}{tt:TT}{hg:GF}{ft:TF}{fa:AF}
theorem aJf{o0:HO}{c0:Cell}(h0:(o0=.dT []/\c0=.dt [])\/(o0=.dK []/\c0=.dk [])){wi:TI}{cap:List (Option Nat)}{tk tv:TE}{fk:KF}{fe:EF}(i:SI K wi fa)(a:SG K tg hg)(c:STt K tt ft)(b:SK K tk fk)(e:SE K tv fe):
 SE K (tDc o0 cap wi tg tt tk tv) (fDc c0 cap fa hg ft fk fe):=by
 sleep 0;sleep 6;obtain⟨M9,h9,hh⟩:=aG hh;cases hh;refine i _ _ _ _ h1 W H σ _ G R fun J W1 H1 e1 G1 gv=>fun D hD=>?_;have G2:Good K (W1.more D) (M1++[c0]) (upd H1 D o0):=G1.new hD (by rcases h0 with⟨rfl,rfl⟩|⟨rfl,rfl⟩<;>exact .nil);have e2:=W1.ext_more D;have rD:cF K (W1.more D) (.c M1.length) (.ref D):=G1.newV;refine⟨fun j m σ' H'=>∃γ' M3 W3,j<=ys.length/\m=ys.length-j/\(W1.more D).Ext W3/\Good K W3 M3 H'/\cQ K W3 γ' σ'/\dcF M1.length hg ft fk fe (ys.drop j) γ' M3=some M',⟨_,sM cap γ,_,_,D6 _,rfl,.refl _,G2,CG ((R.up e1).up e2) cap,h9⟩,?_⟩;rintro j m σ' H' ⟨γ',M3,W3,hj,rfl,e3,G3,R3,h3⟩;obtain⟨gv1,gv2⟩:=gv W3 M3 H' (e2.trans e3) G3;by_cases hlt:j<ys.length
 .obtain⟨go,yl⟩:=gv1 j ys[j] (B5 hlt);rw[F9 hlt]at h3;refine .inr ⟨go,fun σ4 H4=>∃γ4 M4 W4,W3.Ext W4/\Good K W4 M4 H4/\cQ K W4 γ4 σ4/\dcF M1.length hg ft fk fe (ys.drop (j+1)) γ4 M4=some M',?_,fun y H4 hy=>?_⟩
  .rintro σ4 H4 ⟨γ4,M4,W4,e4,G4,R4,h4⟩;exact⟨_,by omega,γ4,M4,W4,hlt,rfl,e3.trans e4,G4,R4,h4⟩
  .obtain⟨W8,e8,G8,ry⟩:=yl y H4 hy;obtain⟨⟨γ5,M5⟩,h5,h3⟩:=aG (show(hg ys[j] γ' M3).bind _=_ from h3);obtain⟨⟨b6,M6⟩,h6,h3⟩:=aG h3;refine a _ _ _ _ _ h5 W8 _ σ' y _ G8 (R3.up e8) ry fun σ5 W5 H5 e5 G5 R5=>?_;refine c _ _ _ _ h6 W5 H5 σ5 _ G5 R5 fun W6 H6 e6 G6=>?_;have e36:=(e8.trans e5).trans e6;cases b6 with
   |true=>
    rw[A3 rfl]at h3;obtain⟨⟨ky,M7⟩,h7,h3⟩:=aG h3;obtain⟨⟨z,M10⟩,h10,h3⟩:=aG h3;obtain⟨M11,h11,h3⟩:=aG h3;refine .inl ⟨rfl,b _ _ _ _ h7 W6 H6 σ5 _ G6 (R5.up e6) fun yv W7 H7 e7 G7 r7=>e _ _ _ _ h10 W7 H7 σ5 _ G7 (R5.up (e6.trans e7)) fun v W10 H10 e10 G10 r10=>?_⟩;have e310:=(e36.trans e7).trans e10;obtain⟨p,H11,ep,g11,G11⟩:=KR G10 h11 (rD.up (e3.trans e310)) (r7.up e10) r10;cases ep;exact⟨H11,g11,γ5,M11,W10,e310,G11,R5.up ((e6.trans e7).trans e10),h3⟩
   |false=>
    rw[A5 A4]at h3;exact .inr ⟨rfl,γ5,M6,W6,e36,G6,R5.up e6,h3⟩
 .have ej:j=ys.length:=by omega
  subst ej;rw[S6]at h3;cases h3;exact .inl ⟨gv2,k _ W3 H' ((e1.trans e2).trans e3) G3 (rD.up e3)⟩
variable{ι:Type}{X:ι->Cx}{N':List Str}{cap:List (Option Nat)}{scope:Scope}{tg' iter kx vx:Expr}{ifs:List Expr}{gf:GF}{fk:KF}{f:EF}{pos:Pos}
theorem aHO(hu:∀i,(X i).A.units<cLine)(hc:∀i,(X i).calm=true)(S:∀i,rC (X i) N' cap scope)(x:MI K X tg' iter fa)(y:MG K (kX X N' scope) tg' gf)(z:MF K (kX X N' scope) ifs ft)(w:MK K (kX X N' scope) kx fk)(q:ME K (kX X N' scope) vx f)(hs:∀(env:Env)(x:Value),foldedSetIterable iter env x=pure x:=by intro _ _;rfl):
 ME K X (.DictComp kx vx [⟨tg',iter,ifs,0⟩] scope pos) (fDc (.dt []) cap fa gf ft fk f):=by
 obtain⟨t,x1,x2⟩:=x.ex;obtain⟨u,y1,y2⟩:=y.ex;obtain⟨v,z1,z2⟩:=z.ex;obtain⟨o,w1,w2⟩:=w.ex;obtain⟨p,q1,q2⟩:=q.ex;exact⟨_,fun i=>aIT (.inl rfl) (hu i) (hc i) (S i) (x1 i) (fun C s H fp pn=>y1 (i,C,s,H,fp,pn)) (fun C s H fp pn=>z1 (i,C,s,H,fp,pn)) (fun C s H fp pn=>w1 (i,C,s,H,fp,pn)) (fun C s H fp pn=>q1 (i,C,s,H,fp,pn)) (hs _),aJf (.inl ⟨rfl,rfl⟩) x2 y2 z2 w2 q2⟩
end
theorem cB.u1{k:Nat}(r:cB k A):A.units+1<cLine:=by have:=r.un;omega
theorem cB.u0{k:Nat}(r:cB k A):A.units<cLine:=by have:=r.un;omega
noncomputable abbrev IPF:=Ga->Sto->Option ((List CD×(Sto->Prop))×Sto)
noncomputable def aHn(K:Fg)(J:It)(P:Sto->Prop)(xs:List CD)(W:Wd):Prop:=∀W' M' H',W.Ext W'->Good K W' M' H'->P M'->
 (∀i x,xs[i]?=some x->J.go i H'/\∀y H'',J.yld i H' y H''->∃W'',W'.Ext W''/\Good K W'' M' H''/\cF K W'' x y)/\J.stop xs.length H'
noncomputable def SIP(K:Fg)(wi:TI)(f:IPF):Prop:=∀γ M xs P M',f γ M=some ((xs,P),M')->∀(W:Wd)(H:Hp)(σ:St)(R:It->Hp->Prop),Good K W M H->cQ K W γ σ->(∀J W' H',W.Ext W'->Good K W' M' H'->aHn K J P xs W'->R J H')->wi σ H R
noncomputable def walked(M:Sto):CD->Option (List CD×(Sto->Prop))
 |.d x=>(aW x).bind fun ds=>some (ds.map .d,fun _=>True)
 |.c i=>match M[i]? with
  |some (.lst xs)=>some (xs,fun M'=>M'[i]?=some (.lst xs))
  |_=>none
 |_=>none
noncomputable def iT(f:EF):IPF:=fun γ M=>(f γ M).bind fun r=>(walked r.2 r.1).bind fun p=>some (p,r.2)
open Classical in
noncomputable def uF(P:Sto->Prop)(g:GF)(b:SF):List CD->Ga->Sto->Option (Out×Sto)
 |[],γ,M=>if P M then some (.nx γ,M)else none
 |x::xs,γ,M=>if P M then(g x γ M).bind fun r=>(b r.1 r.2).bind fun q=>match q.1 with
  |.nx γ'=>uF P g b xs γ' q.2
  |.ct γ'=>uF P g b xs γ' q.2
  |.bk γ'=>some (.nx γ',q.2)
  |.rt x=>some (.rt x,q.2)else none
noncomputable def UN(f:IPF)(g:GF)(b:SF):SF:=fun γ M=>(f γ M).bind fun r=>uF r.1.2 g b r.1.1 γ r.2
section
variable{K:Fg}{ta:TE}{f:EF}{fp:IPF}{tg:TG}{hg:GF}{t:TS}{p:SF}
theorem ED{x:CD}{v:V}{xs:List CD}{P:Sto->Prop}(h:walked M x=some (xs,P))(G:Good K W M H)(r:cF K W x v):
 ∃a,v=.ref a/\((∃vs,SqL K H a vs)/\(∀W' M' H',W.Ext W'->Good K W' M' H'->P M'->∃vs,SqL K H' a vs/\bU K W' xs vs)\/(∃vs,SqT K H a vs)/\∀W' M' H',W.Ext W'->Good K W' M' H'->P M'->∃vs,SqT K H' a vs/\bU K W' xs vs):=by
 unfold walked at h;split at h
 .rename_i y;obtain⟨ds,h2,h⟩:=aG h;cases h;obtain⟨a,vs,rfl,hs,hr⟩:=jT (show Rep K W.F y v from r) h2;refine⟨a,rfl,?_⟩;rcases hs with hs|hs
  .exact .inl ⟨⟨vs,G.fh.seq hs⟩,fun W' M' H' e G' _=>⟨vs,G'.fh.seq (e.ff.seq hs),bU.up (kN hr) e⟩⟩
  .exact .inr ⟨⟨vs,G.fh.seqT hs⟩,fun W' M' H' e G' _=>⟨vs,G'.fh.seqT (e.ff.seqT hs),bU.up (kN hr) e⟩⟩
 .rename_i i;split at h
  .rename_i ys hy;cases h;obtain⟨vs,hv,hr⟩:=G.lstAt hy;refine⟨_,r.2,.inl ⟨⟨vs,SqL.of hv⟩,fun W' M' H' e G' hP=>?_⟩⟩;obtain⟨us,hu,hr'⟩:=G'.lstAt hP;rw[e.al i r.1]at hu;exact⟨us,SqL.of hu,hr'⟩
  .cases h
 .cases h
theorem TL(a:SE K ta f):SIP K (aDb K ta) (iT f):=by
 intro γ M xs P M' hh W H σ R G Rs k;sleep 3;obtain⟨q,h2,hh⟩:=aG hh;cases hh;refine a _ _ _ _ h1 W H σ _ G Rs fun v W1 H1 e1 G1 r1=>?_;obtain⟨l,rfl,hw⟩:=ED h2 G1 r1;refine⟨l,rfl,?_⟩;rcases hw with⟨⟨vs,hv⟩,hw⟩|⟨⟨vs,hv⟩,hw⟩
 .refine .inl ⟨vs,hv,k _ W1 H1 e1 G1 fun W2 M2 H2 e2 G2 hP=>?_⟩;obtain⟨us,hu,hr⟩:=hw W2 M2 H2 e2 G2 hP;refine⟨fun i x hx=>?_,us,hu,by rw[Paired.len hr];exact A7 _⟩;obtain⟨u,hu',ru⟩:=Paired.get hr hx;refine⟨⟨us,u,hu,hu'⟩,fun y H3 hy=>⟨W2,.refl _,by rw[hy.1];exact G2,?_⟩⟩;have:=hy.2 us hu;rw[hu']at this;cases this;exact ru
 .refine .inr ⟨vs,hv,k _ W1 H1 e1 G1 fun W2 M2 H2 e2 G2 hP=>?_⟩;obtain⟨us,hu,hr⟩:=hw W2 M2 H2 e2 G2 hP;refine⟨fun i x hx=>?_,us,hu,by rw[Paired.len hr];exact A7 _⟩;obtain⟨u,hu',ru⟩:=Paired.get hr hx;refine⟨⟨us,u,hu,hu'⟩,fun y H3 hy=>⟨W2,.refl _,by rw[hy.1];exact G2,?_⟩⟩;have:=hy.2 us hu;rw[hu']at this;cases this;exact ru
theorem aEj{wi:TI}(i:SIP K wi fp)(a:SG K tg hg)(b:SS K t p):SS K (aDV wi tg t) (UN fp hg p):=by
 sleep 5;obtain⟨⟨⟨xs,P⟩,M1⟩,h1,hh⟩:=aG hh;have hh:uF P hg p xs γ M1=some (o,M'):=hh;refine i _ _ _ _ _ h1 W H σ _ G R fun J W1 H1 e1 G1 gv=>?_;refine⟨fun j m σ' H'=>∃γ' M2 W2,j<=xs.length/\m=xs.length-j/\W1.Ext W2/\Good K W2 M2 H'/\cQ K W2 γ' σ'/\uF P hg p (xs.drop j) γ' M2=some (o,M'),⟨_,γ,M1,W1,D6 _,rfl,.refl _,G1,R.up e1,hh⟩,?_⟩;rintro j m σ' H' ⟨γ',M2,W2,hj,rfl,e2,G2,R2,h2⟩
 have hP:P M2:=by
  by_cases hP:P M2
  .exact hP
  .cases hd:xs.drop j<;>rw[hd]at h2<;>unfold uF at h2<;>rw[A5 hP]at h2<;>cases h2
 obtain⟨gv1,gv2⟩:=gv W2 M2 H' e2 G2 hP;by_cases hlt:j<xs.length
 .obtain⟨go,yl⟩:=gv1 j xs[j] (B5 hlt);rw[F9 hlt]at h2;unfold uF at h2;rw[A3 hP]at h2;refine .inr ⟨go,fun σ3 H3=>∃γ3 M3 W3,W2.Ext W3/\Good K W3 M3 H3/\cQ K W3 γ3 σ3/\uF P hg p (xs.drop (j+1)) γ3 M3=some (o,M'),?_,fun y H3 hy=>?_⟩
  .rintro σ3 H3 ⟨γ3,M3,W3,e3,G3,R3,h3⟩;exact⟨_,by omega,γ3,M3,W3,hlt,rfl,e2.trans e3,G3,R3,h3⟩
  .obtain⟨W8,e8,G8,ry⟩:=yl y H3 hy;obtain⟨⟨γ4,M4⟩,h4,h2⟩:=aG h2;obtain⟨⟨o5,M5⟩,h5,h2⟩:=aG h2;refine a _ _ _ _ _ h4 W8 _ σ' y _ G8 (R2.up e8) ry fun σ4 W4 H4 e4 G4 R4=>?_;refine b _ _ _ _ h5 W4 H4 σ4 _ G4 R4 fun W5 H5 e5 G5=>?_;have e25:=(e8.trans e4).trans e5;cases o5 with
   |nx γ5=>exact fun σ5 R5=>⟨γ5,M5,W5,e25,G5,R5,h2⟩
   |ct γ5=>exact fun σ5 R5=>⟨γ5,M5,W5,e25,G5,R5,h2⟩
   |bk γ5=>cases h2;exact k W5 H5 ((e1.trans e2).trans e25) G5
   |rt x=>cases h2;exact k W5 H5 ((e1.trans e2).trans e25) G5
 .have e:j=xs.length:=by omega
  subst e;rw[S6]at h2;unfold uF at h2;rw[A3 hP]at h2;cases h2;exact .inl ⟨gv2,k W2 H' (e1.trans e2) G2 σ' R2⟩
end
section
variable{ι:Type}{K:Fg}{X:ι->Cx}{tg iter a:Expr}{es sts':List Expr}{sts:List Stmt}{f:EF}{fa:AF}{gf:GF}{gs:GsF}{sf:SF}{pos:Pos}
theorem aEi(hp:∀i,PassesOwn (model (X i).prog (X i).w) (X i).A (X i).env (X i).xe)(hc:∀i,(X i).calm=true)(hK:∀i,(X i).K=K)(x:ME K X iter f)(y:MG K X tg gf)(z:ML K X sts sf)(hs:∀(env:Env)(x:Value),foldedSetIterable iter env x=pure x:=by intro _ _;rfl):MS K X (.For tg iter sts [] pos) (UN (iT f) gf sf):=by
 sleep 7;exact⟨_,fun i=>PD (hp i) (hc i) (IP (hK i) (x1 i)) (y1 i) (z1 i) (hs _),aEj (TL x2) y2 z2⟩
end
section
variable{K:Fg}
noncomputable def oZ(T:String)(f:EF):EF:=fun γ M=>(f γ M).bind fun r=>(snap 5 r.2 r.1).bind fun d=>some (.d (.bool (nO T d)),r.2)
noncomputable def HZ(T U:String)(f:EF):EF:=fun γ M=>(f γ M).bind fun r=>(snap 5 r.2 r.1).bind fun d=>some (.d (.bool (nO T d || nO U d)),r.2)
theorem aDs{T:String}{ta:TE}{f:EF}(hT:T∈asked)(a:SE K ta f):SE K (tCB (aDp K) (pH ta (pH (tC (.ty T)) QX))) (oZ T f):=by
 sleep 0;sleep 3;obtain⟨d,h2,hh⟩:=aG hh;cases hh;sleep 1;exact⟨v,T,d,rfl,hT,pF G1 5 y d v h2 r1,k _ W1 H1 e1 G1 rfl⟩
theorem aAC{T U:String}{ta:TE}{f:EF}(hT:T∈asked)(hU:U∈asked)(a:SE K ta f):SE K (tCB (aBZ K) (pH ta (pH (VS (pH (tC (.ty T)) (pH (tC (.ty U)) QX))) QX))) (HZ T U f):=by
 sleep 0;sleep 3;obtain⟨d,h2,hh⟩:=aG hh;cases hh;sleep 1;refine⟨by show 2<=sizeLine;decide,fun p hp=>?_⟩;obtain⟨e2,G2⟩:=G1.lay (o:=.tup [.ty T,.ty U]) hp;refine⟨v,p,[T,U],d,rfl,aR,fun S hS=>?_,pF G2 5 y d v h2 (r1.up e2),?_⟩
 .rcases List.mem_cons.mp hS with rfl|hS
  .exact hT
  .rw[List.mem_singleton.mp hS];exact hU
 .have:=k (.bl (nO T d || nO U d)) _ _ (e1.trans e2) G2 rfl;simpa[List.any]using this
variable{ι:Type}{X:ι->Cx}{a:Expr}{f:EF}{pos:Pos}
theorem AS{T:String}{y:Str}{p p':Pos}(hK:∀i,(X i).K=K)(hT:T∈asked)(x:ME K X a f)(hs:PQ a [.Name y p'])(hm:∀i,(X i).mg "isinstance"=none)(hmy:∀i,(X i).mg y=none)(hb:bootBuiltins y=some (.type T))(hg:∀i,Gl (X i) "isinstance":=by intro _;rfl)(hgy:∀i,Gl (X i) y:=by intro _;rfl)
 (hn:y≠"__name__":=by decide) (hd:(y==("__debug__":Str))=false:=by decide):ME K X (.Call (.Name "isinstance" p) [a,.Name y p'] [] pos) (oZ T f):=by
 sleep 2;refine⟨_,fun i=>sP (aJS (hK i)) (hg i) (hm i) boot_isinstance (hZ (x1 i) (hZ (xP (v:=.ty T) (hgy i) (hmy i) hb rfl hn hd) yV aY) (hs _)) (by decide) (by decide) (hs _) (mG aY tZ),aDs hT x2⟩
theorem aBQ{T U:String}{y z:Str}{p p' p'' p3:Pos}{k:Nat}(hK:∀i,(X i).K=K)(hT:T∈asked)(hU:U∈asked)(x:ME K X a f)(hs:PQ a [.Tuple [.Name y p',.Name z p''] k p3])(hm:∀i,(X i).mg "isinstance"=none)(hmy:∀i,(X i).mg y=none)(hmz:∀i,(X i).mg z=none)
 (hb:bootBuiltins y=some (.type T)) (hbz:bootBuiltins z=some (.type U)) (hg:∀i,Gl (X i) "isinstance":=by intro _;rfl) (hgy:∀i,Gl (X i) y:=by intro _;rfl) (hgz:∀i,Gl (X i) z:=by intro _;rfl)
 (hn:y≠"__name__":=by decide) (hd:(y==("__debug__":Str))=false:=by decide) (hn':z≠"__name__":=by decide) (hd':(z==("__debug__":Str))=false:=by decide):ME K X (.Call (.Name "isinstance" p) [a,.Tuple [.Name y p',.Name z p''] k p3] [] pos) (HZ T U f):=by
 sleep 2;refine⟨_,fun i=>sP (aJL (hK i)) (hg i) (hm i) boot_isinstance (hZ (x1 i) (hZ (BP (hZ (xP (v:=.ty T) (hgy i) (hmy i) hb rfl hn hd) (hZ (xP (v:=.ty U) (hgz i) (hmz i) hbz rfl hn' hd') yV aY) aY)) yV BM) (hs _)) (by decide) (by decide) (hs _) (mG BM tZ),aAC hT hU x2⟩
end
end L2
namespace PySem
open Sem (wp)
namespace F
end F
end PySem
namespace L2
open PySem PySem.Spec PyProof.Rows
theorem cB.le{ι:Type}{j k:Nat}{A:Around}{q:Bool}(r:cB k A q)(h:j<=k:=by decide):ι->cB j A q:=fun _=>r.mono h
theorem cB.mark{j k:Nat}{A:Around}{v:Option Value}(r:cB k A)(h:j<=k):cB j (A.mark v) false:=
 ⟨(fun z=>nomatch z),(r.mono h).dp,(r.mono h).un,r.gd⟩
noncomputable def CU(C:Addr)(sp:Sp)(EE:St->XK)(t:TA):TE:=fun σ H Q=>aKi C sp [] (EE σ) t σ H Q
theorem aAU{X:Cx}{EE:St->XK}{C f:Addr}{k:Nat}{x:Str}{fd:FuncData}{ps:List Str}{sp:Sp}{p pos:Pos}{e:Expr}{es:List Expr}{t:TA}(ok:XOk X EE)(M:Mk X.K C f)(F:jF X.prog X.w X.K X.mg X.base (CX1 X.prog X.w) k f fd ps sp)(hr:cB (k+1) X.A)
 (hg:Gl X x) (hm:X.mg x=some (.ref C)) (hb:Binds X.K fd ps []) (ha:PA X (e::es) t) (hdb:(x==("__debug__":Str))=false) (he:starEach (e::es) X.env=(false,eval e X.env)::starEach es X.env) (hpl:(backTo pos (starEach es X.env)).any (·.1)=false):
 PE X (.Call (.Name x p) (e::es) [] pos) (CU C sp EE t):=by
 sleep 10;refine J2 (mM I hg hm ?_ hdb);refine U3 (h₀:=X.base) I.ok.mod.kin M.kp (thn (ha pos pins s σ H _ I h) fun us s1 ⟨vs,H1,I1,r,q⟩=>⟨I1.kIn,?_⟩) he hpl;exact NS M F hr hb .nil (fun _ _ _ _ I' z=>ok.pass _ _ (aBY ok.bd I' z)) I1 r q
noncomputable def zO(nm:Str)(h:FX)(fa:AF):EX:=fun γ M=>(fa γ M).bind fun r=>(h (.c r.2.length::r.1) (r.2++[.obj nm []])).bind fun q=>match q.1 with
 |.x e=>some (.x e,q.2)
 |.v y=>if uO y=true then some (.v (.c r.2.length),q.2)else none
noncomputable def NK(nm f:Str)(eo:EF)(ev:EX):SFX:=fun γ M=>(ev γ M).bind fun r=>match r.1 with
 |.x e=>some (.xc γ e,r.2)
 |.v v=>(eo γ r.2).bind fun o=>(objOf nm o.2 o.1).bind fun p=>if p.2.length<1000 then some (.o (.nx γ),o.2.set p.1 (.obj nm (xH f v p.2)))else none
section
variable{K:Fg}{EE:St->XK}{ta tv:TE}{tA:TA}
theorem YM{nm:Str}{h:FX}{fa:AF}(b:SA K tA fa):SEX K EE (CU (aS K nm) (spX K h) EE tA) (zO nm h fa):=by
 intro γ M r M' hh W H σ Q G R k;sleep 6;obtain⟨⟨z,M2⟩,h2,hh⟩:=aG hh;sleep 8;intro p dx hp hdx hne;rw[C5];have Ga:=G1.extra (o:=.own p) hdx;have hp':(upd H1 dx (.own p)) p=none:=by rw[aL (F4 hne)];exact hp
 have Gb:=Ga.new hp' (c:=.obj nm []) (o:=.ins (aS K nm) dx []) ⟨rfl,.nil⟩;have e2:=W1.ext_more p;refine⟨.c M1.length::ys,M1++[.obj nm []],W1.more p,z,M2,Gb,.cons G1.newV (bU.up r1 e2),h2,fun W3 H3 e3 G3=>?_⟩;cases z with
 |x e=>cases hh;exact k W3 H3 ((e1.trans e2).trans e3) G3
 |v y=>
  have hh:(if uO y=true then some (Rs.v (.c M1.length),M2)else none)=some (r,M'):=hh;by_cases hy:uO y=true
  .rw[A3 hy]at hh;cases hh;have:=BK hy;subst this;exact fun v rv=>⟨rv,k W3 H3 ((e1.trans e2).trans e3) G3 _ (G1.newV.up e3)⟩
  .rw[A5 hy]at hh;cases hh
theorem aEn{nm f:Str}{eo:EF}{ev:EX}(c:Cls K (aS K nm))(n:fZ K (aS K nm) f)(a:SE K ta eo)(b:SEX K EE tv ev):SSX K EE (aEq K ta tv f) (NK nm f eo ev):=by
 sleep 5;sleep 3;refine b _ _ _ _ h1 W H σ _ G R fun W1 H1 e1 G1=>?_;cases y with
 |x e=>cases hh;exact fun c dx z=>k W1 H1 e1 G1 σ c dx (R.up e1) z
 |v y=>
  intro v r1;obtain⟨⟨z,M2⟩,h2,hh⟩:=aG (show(eo γ M1).bind _=_ from hh);obtain⟨⟨i,fs⟩,h3,hh⟩:=aG hh;have hh:(if fs.length<1000 then some (XM.o (.nx γ),M2.set i (.obj nm (xH f y fs)))else none)=some (o,M'):=hh;by_cases hl:fs.length<1000
  .rw[A3 hl]at hh;cases hh;refine a _ _ _ _ h2 W1 H1 σ _ G1 (R.up e1) fun u W2 H2 e2 G2 r2=>?_;obtain⟨rfl,hM⟩:=xC h3;obtain⟨dx,us,hH,hp⟩:=G2.objAt hM;refine⟨W2.α i,_,dx,us,r2.2,hH,c,n,by rw[<- Paired.len hp];exact hl,?_⟩;exact k W2 _ (e1.trans e2) (G2.set hM (by intro q;cases q) (c':=.obj nm (xH f y fs)) (o':=.ins (aS K nm) dx (oW f v us)) ⟨rfl,CZ (r1.up e2) hp⟩) σ (R.up (e1.trans e2))
  .rw[A5 hl]at hh;cases hh
end
structure xB(P:Program)(w:World)(K:Fg)(mg:Str->Option Value)(base:Heap)(k:Nat)(nm:Str)(ps:List Str)(sp:Sp):Prop where
 ex:∃f fd,jF P w K mg base (CX1 P w) k f fd ps sp/\Mk K (aS K nm) f/\Binds K fd ps []/\mg nm=some (.ref (aS K nm))
section
variable{ι:Type}{K:Fg}{X:ι->Cx}{EE:ι->St->XK}{e o:Expr}{es:List Expr}{f:EX}{g:EF}{fa:AF}{pos:Pos}
theorem aBH{nm fl:Str}(hK:∀i,(X i).K=K)(hc:Cls K (aS K nm))(hn:fZ K (aS K nm) fl)(x:MX K X EE o f)(hb:∀env:Env,attributeBase o fl env (eval o env)=eval o env:=by intro _;rfl):MX K X EE (.Attribute o fl pos) (NU nm fl f):=by
 sleep 2;refine⟨fun i=>aEk K (t i) fl,fun i=>?_,fun i=>aDi hc hn (x2 i)⟩;have:=aCv (x1 i) (hb _) (pos:=pos);rw[hK i]at this;exact this
theorem aDa{nm fl:Str}{pos':Pos}(hK:∀i,(X i).K=K)(hc:Cls K (aS K nm))(hn:fZ K (aS K nm) fl)(x:ME K X o g)(y:MX K X EE e f)(hs:∀i,swapsWith e (some (.Attribute o fl pos')) pos.line (X i).env=pure false:=by intro _;rfl):
 MSX K X EE (.Assign [.Attribute o fl pos'] e pos) (NK nm fl g f):=by
 sleep 4;refine⟨fun i=>aEq K t (u i) fl,fun i=>?_,fun i=>aEn hc hn x2 (y2 i)⟩;have:=aCh (x1 i) (y1 i) (hs i);rw[hK i]at this;exact this
theorem TK{k:Nat}{nm:Str}{ps:List Str}{F:FX}{p:Pos}(ok:∀i,XOk (X i) (EE i))(C:∀i,xB (X i).prog (X i).w (X i).K (X i).mg (X i).base k nm ps (spX K F))(hK:∀i,(X i).K=K)(hr:∀i,cB (k+1) (X i).A)(y:MA K X (e::es) fa)(hg:∀i,Gl (X i) nm:=by intro _;rfl)(hd:(nm==("__debug__":Str))=false:=by decide):
 MX K X EE (.Call (.Name nm p) (e::es) [] pos) (zO nm F fa):=by
 obtain⟨u,y1,y2⟩:=y.ex;refine⟨fun i=>CU (aS K nm) (spX K F) (EE i) u,fun i=>?_,fun i=>YM y2⟩;obtain⟨f,fd,F',M,B,m⟩:=(C i).ex;have:=aAU (ok i) M F' (hr i) (hg i) m B (y1 i) hd (y.st.1 _) (y.st.2.plain _ _) (p:=p) (pos:=pos);rw[hK i]at this;exact this
end
section
variable{P:Program}{w:World}{K:Fg}{mg:Str->Option Value}{base:Heap}
theorem KO.okR{nm qual:Str}{st:Stmt}{N ps:List Str}{k:Nat}{b:SFX}(D:KO K nm "__init__" qual st)(hm:PySem.W.makesIn K (aS K nm)=true)(hk:PySem.W.keepIn K (.ref (aS K nm))=true)(hg:mg nm=some (.ref (aS K nm)))(S:aT N ps (aH st))
 (hb:∀(kV doc pm:Value)(an:Option Addr)(cdv ct:Value)(us:List Value),us.length=ps.length->bindArgs (PySem.W.fnOf "__init__" qual (dW st) (bQ st) (aH st) .none kV doc pm an cdv ct) ⟨us,[]⟩=pure (ps.zip us))
 (hbody:∀(f:Addr)(cdv:Value)(A:Around)(outer:List Env)(s:Shared)(H:Hp)(E:XK),cB k (A.deeper (envOfC qual (aH st) s.heap.objs.size f cdv))->
  MLX K (aDk P w K mg base N qual st f cdv A outer s H E) (fun _ _=>E) (bQ st) b):xB P w K mg base (k+1) nm ps (spX K (fnX ps.length N.length b)):=by
 obtain⟨f,fd,F,h1,h2⟩:=D.ex;exact⟨f,fd,F.okXF S hbody,⟨hm,h1,h2,hk⟩,F.binds hb,hg⟩
end
section
variable{K:Fg}
noncomputable def inC(neg:Bool):F2:=fun x y M=>(snap 5 M x).bind fun a=>(snap 5 M y).bind fun b=>(aW b).bind fun ds=>if (SeqAt.shaped a&&ds.all SeqAt.shaped)=true then some (.d (.bool (if neg then !ds.any fun d=>PyData.eqv d a else ds.any fun d=>PyData.eqv d a)),M)else none
theorem aGd{neg:Bool}:P2 K (XH K neg) (inC neg):=by
 sleep 11;obtain⟨a,h1,h⟩:=aG h;obtain⟨b,h2,h⟩:=aG h;obtain⟨ds,h3,h⟩:=aG h;by_cases hs:(SeqAt.shaped a&&ds.all SeqAt.shaped)=true
 .rw[A3 hs]at h;cases h;rw[B4]at hs;obtain⟨p,vs,rfl,hq,hr⟩:=jT (pF G 5 y b u h2 ry) h3;exact⟨a,ds,p,vs,pF G 5 x a v h1 rx,rfl,hq,hr,hs.1,hs.2,k _ W H (.refl _) G rfl⟩
 .rw[A5 hs]at h;cases h
theorem aJg{ι:Type}{X:ι->Cx}(hK:∀i,(X i).K=K)(hu:∀i,(X i).A.in1.units+64<cLine):Q2 K X (compareOp .In) (inC false):=⟨_,fun i=>L2.kIn (hK i) (hu i),aGd⟩
end
end L2
namespace PySem
open PySem.Calls PyProof.Rows
end PySem
namespace L2
open PySem PySem.Spec PyProof.Rows
section
variable{K:Fg}
noncomputable def toA:CD->Option (PyData ⊕ Nat)
 |.d x=>some (.inl x)
 |.c i=>some (.inr i)
 |.t _=>none
 |.f _=>none
noncomputable def aGE:List CD->Option (List (PyData ⊕ Nat))
 |[]=>some []
 |x::r=>(toA x).bind fun a=>(aGE r).bind fun q=>some (a::q)
theorem NP{W:Wd}:∀{xs:List CD}{as:List (PyData ⊕ Nat)}{vs:List V},aGE xs=some as->bU K W xs vs->Paired (LR K W) as vs
 |[],_,_=>fun h r=>by cases h;cases r;exact .nil
 |x::xs,as,vs=>fun h r=>by
  obtain⟨a,h1,h⟩:=aG h;obtain⟨q,h2,h⟩:=aG h;cases h;cases r with
  |cons r1 r2=>
   refine .cons ?_ (NP h2 r2);cases x<;>cases h1<;>exact r1
noncomputable def GA(xs:List CD):Option CD:=match iQ xs with
 |some ds=>some (.d (.tuple ds))
 |none=>(aGE xs).bind fun as=>some (.t as)
noncomputable def GQ(f:AF):EF:=fun γ M=>(f γ M).bind fun r=>if r.1.length<=sizeLine then(GA r.1).bind fun x=>some (x,r.2)else none
theorem aDo{tA:TA}{fa:AF}(b:SA K tA fa):SE K (VS tA) (GQ fa):=by
 sleep 0;sleep 6;have hh:(if ys.length<=sizeLine then(GA ys).bind fun x=>some (x,M1)else none)=some (x,M'):=hh;by_cases hl:ys.length<=sizeLine
 .rw[A3 hl]at hh;obtain⟨z,h2,hh⟩:=aG hh;cases hh;refine b _ _ _ _ h1 W H σ _ G R fun vs W1 H1 e1 G1 r1=>⟨by rw[<- Paired.len r1];exact hl,fun p hp=>?_⟩;obtain⟨e2,G2⟩:=G1.lay (o:=.tup vs) hp;refine k _ _ _ (e1.trans e2) G2 ?_;unfold GA at h2;split at h2
  .rename_i ds hd;cases h2;exact⟨p,vs,rfl,SqT.of aR,aJ.same e2.ff _ _ (dO hd r1)⟩
  .obtain⟨as,h3,h2⟩:=aG h2;cases h2;exact⟨p,vs,rfl,aR,Paired.mapP (NP h3 r1) fun _ _ r=>LR.up r e2⟩
 .rw[A5 hl]at hh;cases hh
noncomputable def aBv(k:Nat)(γ:Ga)(M:Sto):Option (Ga×Sto):=match γ[k]? with
 |some (some (.c i))=>match M[i]? with
  |some (.lst xs)=>(iQ xs).bind fun ds=>some (γ.set k (some (.d (.list ds))),M.set i .dead)
  |_=>none
 |_=>none
noncomputable def aCQ(k:Nat)(f:SF):SF:=fun γ M=>(f γ M).bind fun r=>match r.1 with
 |.nx γ'=>(aBv k γ' r.2).bind fun q=>some (.nx q.1,q.2)
 |o=>some (o,r.2)
theorem BD{α β:Type}{R:α->β->Prop}:∀{xs:List α}{ys:List β}{k:Nat}{x:α}{y:β},Paired R xs ys->ys[k]?=some y->R x y->Paired R (xs.set k x) ys
 |_,_,0,x,y,.cons r t=>fun e h=>by cases e;exact .cons h t
 |_,_,k+1,x,y,.cons r t=>fun e h=>.cons r (BD t (by simpa using e) h)
 |_,_,0,x,y,.nil=>fun e h=>by cases e
 |_,_,k+1,x,y,.nil=>fun e h=>by cases e
theorem aGS{t:TS}{f:SF}{k:Nat}(a:SS K t f):SS K t (aCQ k f):=by
 intro γ M o M' hh W H σ D G R c;obtain⟨⟨o1,M1⟩,h1,hh⟩:=aG hh;refine a _ _ _ _ h1 W H σ D G R fun W1 H1 e1 G1=>?_;cases o1 with
 |nx γ1=>
  obtain⟨⟨γ2,M2⟩,h2,hh⟩:=aG (show(aBv k γ1 M1).bind _=_ from hh);cases hh;unfold aBv at h2;split at h2
  .rename_i i hi;split at h2
   .rename_i xs hx;obtain⟨ds,h3,h2⟩:=aG h2;cases h2;intro σ1 R1;obtain⟨W2,e2,G2,_,r2⟩:=G1.freezeL hx h3;obtain⟨y,hy,ry⟩:=Paired.get R1 hi;refine c W2 H1 (e1.trans e2) G2 σ1 ?_;cases y with
    |none=>exact False.elim ry
    |some v=>
     refine BD (R1.up e2) hy ?_;rw[show v=.ref (W1.α i)from ry.2];exact r2
   .cases h2
  .cases h2
 |bk γ1=>cases hh;exact c W1 H1 e1 G1
 |ct γ1=>cases hh;exact c W1 H1 e1 G1
 |rt x=>cases hh;exact c W1 H1 e1 G1
theorem WA{X:Cx}{C f:Addr}{k:Nat}{x:Str}{fd:FuncData}{ps:List Str}{sp:Sp}{p pos:Pos}{e:Expr}{es:List Expr}{t:TA}(M:Mk X.K C f)(F:jF X.prog X.w X.K X.mg X.base (CX1 X.prog X.w) k f fd ps sp)(hr:cB (k+1) X.A)
 (hg:Gl X x) (hm:X.mg x=some (.ref C)) (hb:Binds X.K fd ps []) (ha:PA X (e::es) t) (hdb:(x==("__debug__":Str))=false) (he:starEach (e::es) X.env=(false,eval e X.env)::starEach es X.env) (hpl:(backTo pos (starEach es X.env)).any (·.1)=false):
 PE X (.Call (.Name x p) (e::es) [] pos) (CU C sp noX t):=by
 sleep 10;refine J2 (mM I hg hm ?_ hdb);refine U3 (h₀:=X.base) I.ok.mod.kin M.kp (thn (ha pos pins s σ H _ I h) fun us s1 ⟨vs,H1,I1,r,q⟩=>⟨I1.kIn,?_⟩) he hpl;exact NS M F hr hb .nil (fun _ _ _ _ _ z=>by obtain⟨_,_,_,_,_,_,_,_,_,_,_,_,_,z⟩:=z;exact z.elim) I1 r q
noncomputable def wD(nm:Str)(h:FX)(fa:AF):EF:=fun γ M=>(fa γ M).bind fun r=>(h (.c r.2.length::r.1) (r.2++[.obj nm []])).bind fun q=>match q.1 with
 |.x _=>none
 |.v y=>if uO y=true then some (.c r.2.length,q.2)else none
theorem aBE{nm:Str}{h:FX}{tA:TA}{fa:AF}(b:SA K tA fa):SE K (CU (aS K nm) (spX K h) noX tA) (wD nm h fa):=by
 sleep 0;sleep 6;obtain⟨⟨z,M2⟩,h2,hh⟩:=aG hh;sleep 8;intro p dx hp hdx hne;rw[C5];have Ga:=G1.extra (o:=.own p) hdx;have hp':(upd H1 dx (.own p)) p=none:=by rw[aL (F4 hne)];exact hp
 have Gb:=Ga.new hp' (c:=.obj nm []) (o:=.ins (aS K nm) dx []) ⟨rfl,.nil⟩;have e2:=W1.ext_more p;refine⟨.c M1.length::ys,M1++[.obj nm []],W1.more p,z,M2,Gb,.cons G1.newV (bU.up r1 e2),h2,fun W3 H3 e3 G3=>?_⟩;cases z with
 |x e=>cases hh
 |v y=>
  have hh:(if uO y=true then some (CD.c M1.length,M2)else none)=some (x,M'):=hh;by_cases hy:uO y=true
  .rw[A3 hy]at hh;cases hh;have:=BK hy;subst this;exact fun v rv=>⟨rv,k _ W3 H3 ((e1.trans e2).trans e3) G3 (G1.newV.up e3)⟩
  .rw[A5 hy]at hh;cases hh
open Classical in
noncomputable def jG(P:Sto->Prop)(g:GsF)(b:SFX):Nat->List CD->Ga->Sto->Option (XM×Sto)
 |_,[],γ,M=>if P M then some (.o (.nx γ),M)else none
 |n,x::xs,γ,M=>if P M then(g [.d (.int n),x] γ M).bind fun r=>(b r.1 r.2).bind fun q=>match q.1 with
  |.o (.nx γ')=>jG P g b (n+1) xs γ' q.2
  |.o (.ct γ')=>jG P g b (n+1) xs γ' q.2
  |.o (.bk γ')=>some (.o (.nx γ'),q.2)
  |.o (.rt x)=>some (.o (.rt x),q.2)
  |.xc γ' e=>some (.xc γ' e,q.2)else none
noncomputable def EO(f:AF)(g:GsF)(b:SFX):SFX:=fun γ M=>(f γ M).bind fun r=>match r.1 with
 |[x]=>(walked r.2 x).bind fun p=>jG p.2 g b 0 p.1 γ r.2
 |_=>none
theorem aBq{EE:St->XK}{tA:TA}{fa:AF}{ts:TGs}{gs:GsF}{t:TS}{p:SFX}(i:SA K tA fa)(a:SGs K ts gs)(b:SSX K EE t p):SSX K EE (aDV (aBx K tA) (aAe K 2 ts) t) (EO fa gs p):=by
 sleep 5;sleep 6;refine i _ _ _ _ h1 W H σ _ G R fun vs W1 H1 e1 G1 r1=>?_;revert hh;dsimp only;split
 .rename_i y;intro hh;obtain⟨⟨xs,P⟩,h2,hh⟩:=aG hh;have hh:jG P gs p 0 xs γ M1=some (o,M'):=hh;cases r1 with
  |cons r r'=>
   cases r';obtain⟨l,rfl,hw⟩:=ED h2 G1 r
   have main:∀Sq:Hp->List V->Prop,(∀W' M' H',W1.Ext W'->Good K W' M' H'->P M'->∃vs,Sq H' vs/\bU K W' xs vs)->
    ∃W:Nat->Nat->St->Hp->Prop,(∃m,W 0 m σ H1)/\∀i m σ H,W i m σ H->((Ite Sq).stop i H/\D.nx σ H)\/((Ite Sq).go i H/\∃N:St->Hp->Prop,(∀σ' H',N σ' H'->∃m',m'<m/\W (i+1) m' σ' H')/\∀x H',(Ite Sq).yld i H x H'->aAe K 2 ts x σ H' fun σ2 H2=>t { D with nx:=N,ct:=N,bk:=D.nx } σ2 H2):=by
    intro Sq hw;refine⟨fun j m σ' H'=>∃γ' M2 W2,j<=xs.length/\m=xs.length-j/\W1.Ext W2/\Good K W2 M2 H'/\cQ K W2 γ' σ'/\jG P gs p j (xs.drop j) γ' M2=some (o,M'),⟨_,γ,M1,W1,D6 _,rfl,.refl _,G1,R.up e1,hh⟩,?_⟩;rintro j m σ' H' ⟨γ',M2,W2,hj,rfl,e2,G2,R2,h2⟩
    have hP:P M2:=by
     by_cases hP:P M2
     .exact hP
     .cases hd:xs.drop j<;>rw[hd]at h2<;>unfold jG at h2<;>rw[A5 hP]at h2<;>cases h2
    obtain⟨us,hu,hr⟩:=hw W2 M2 H' e2 G2 hP;by_cases hlt:j<xs.length
    .obtain⟨u,hu',ru⟩:=Paired.get hr (B5 hlt);rw[F9 hlt]at h2;unfold jG at h2;rw[A3 hP]at h2;refine .inr ⟨⟨us,u,hu,hu'⟩,fun σ3 H3=>∃γ3 M3 W3,W2.Ext W3/\Good K W3 M3 H3/\cQ K W3 γ3 σ3/\jG P gs p (j+1) (xs.drop (j+1)) γ3 M3=some (o,M'),?_,fun y H3 hy=>?_⟩
     .rintro σ3 H3 ⟨γ3,M3,W3,e3,G3,R3,h3⟩;exact⟨_,by omega,γ3,M3,W3,hlt,rfl,e2.trans e3,G3,R3,h3⟩
     .obtain⟨q,x',hn,rfl,rfl,hx'⟩:=hy;have:=hx' us hu;rw[hu']at this;cases this;have G3:=G2.extra (o:=.tup [.int j,u]) hn;obtain⟨⟨γ4,M4⟩,h4,h2⟩:=aG h2;obtain⟨⟨o5,M5⟩,h5,h2⟩:=aG h2;refine⟨q,_,rfl,SqT.of aR,rfl,a _ _ _ _ _ h4 W2 _ σ' _ _ G3 R2 (.cons (show cF K W2 (.d (.int j)) (.int j)from rfl) (.cons ru .nil)) fun σ4 W4 H4 e4 G4 R4=>?_⟩;refine b _ _ _ _ h5 W4 H4 σ4 _ G4 R4 fun W5 H5 e5 G5=>?_;have e25:=e4.trans e5;cases o5 with
      |xc γ5 e=>cases h2;exact k W5 H5 ((e1.trans e2).trans e25) G5
      |o o5=>
       cases o5 with
       |nx γ5=>exact fun σ5 R5=>⟨γ5,M5,W5,e25,G5,R5,h2⟩
       |ct γ5=>exact fun σ5 R5=>⟨γ5,M5,W5,e25,G5,R5,h2⟩
       |bk γ5=>cases h2;exact k W5 H5 ((e1.trans e2).trans e25) G5
       |rt x=>cases h2;exact k W5 H5 ((e1.trans e2).trans e25) G5
    .have e:j=xs.length:=by omega
     subst e;rw[S6]at h2;unfold jG at h2;rw[A3 hP]at h2;cases h2;exact .inl ⟨⟨us,hu,(Paired.len hr).symm⟩,k W2 H' (e1.trans e2) G2 σ' R2⟩
   refine⟨l,rfl,?_⟩;rcases hw with⟨⟨vs,hv⟩,hw⟩|⟨⟨vs,hv⟩,hw⟩
   .exact .inl ⟨vs,hv,main _ hw⟩
   .exact .inr ⟨vs,hv,main _ hw⟩
 .intro hh;cases hh
end
section
variable{ι:Type}{K:Fg}{X:ι->Cx}{e a:Expr}{es:List Expr}{f:EF}{fa:AF}{sf:SF}{st:Stmt}{pos:Pos}
theorem aEB{k:Nat}(x:MA K X es fa):ME K X (.Tuple es k pos) (GQ fa):=by
 sleep 2;exact⟨_,fun i=>BP (x1 i),aDo x2⟩
theorem aFR(k:Nat)(x:MS K X st sf):MS K X st (aCQ k sf):=by
 sleep 2;exact⟨_,x1,aGS x2⟩
theorem CN{k:Nat}{nm:Str}{ps:List Str}{F:FX}{p:Pos}(C:∀i,xB (X i).prog (X i).w (X i).K (X i).mg (X i).base k nm ps (spX K F))(hK:∀i,(X i).K=K)(hr:∀i,cB (k+1) (X i).A)(y:MA K X (e::es) fa)(hg:∀i,Gl (X i) nm:=by intro _;rfl)(hd:(nm==("__debug__":Str))=false:=by decide):
 ME K X (.Call (.Name nm p) (e::es) [] pos) (wD nm F fa):=by
 obtain⟨u,y1,y2⟩:=y.ex;refine⟨_,fun i=>?_,aBE y2⟩;obtain⟨f,fd,F',M,B,m⟩:=(C i).ex;have:=WA M F' (hr i) (hg i) m B (y1 i) hd (y.st.1 _) (y.st.2.plain _ _) (p:=p) (pos:=pos);rw[hK i]at this;exact this
theorem YH{EE:ι->St->XK}{sts:List Stmt}{gs:GsF}{p:SFX}{k:Nat}{tpos q cpos:Pos}(ok:∀i,XOk (X i) (EE i))(hc:∀i,(X i).calm=true)(hK:∀i,(X i).K=K)(hm:∀i,(X i).mg "enumerate"=none)(x:MA K X [a] fa)(y:MGs K X es gs)(z:MLX K X EE sts p)(hg:∀i,Gl (X i) "enumerate":=by intro _;rfl)
 (hn:∀env:Env,(assignEach es env).length=2:=by intro _;rfl) (hst:∀env:Env,(assignEach es env).findIdx? (·.1)=none:=by intro _;rfl) (hs:∀(env:Env)(x:Value),foldedSetIterable (.Call (.Name "enumerate" q) [a] [] cpos) env x=pure x:=by intro _ _;rfl):MSX K X EE (.For (.Tuple es k tpos) (.Call (.Name "enumerate" q) [a] [] cpos) sts [] pos) (EO fa gs p):=by
 sleep 7;exact⟨_,fun i=>PD (ok i).own (hc i) (by have:=UD (elts:=es) (x1:=k) (tpos:=tpos) (p:=q) (pos:=cpos) (hg i) (hm i) (x1 i) (x.st.1 _);rw[hK i]at this;exact this) (UE (hK i) (hc i) (y1 i) (hn _) (hst _)) (z1 i) (hs _),fun i=>aBq x2 y2 (z2 i)⟩
end
open Classical in
noncomputable def lcP(P:Sto->Prop)(g:GF)(c:TF)(e:EF):List CD->Ga->Sto->Option (List CD×Sto)
 |[],γ,M=>if P M then some ([],M)else none
 |x::xs,γ,M=>if P M then(g x γ M).bind fun a=>(c a.1 a.2).bind fun b=>if b.1=true then(e a.1 b.2).bind fun r=>(lcP P g c e xs a.1 r.2).bind fun q=>some (r.1::q.1,q.2)else lcP P g c e xs a.1 b.2 else none
noncomputable def PB(cap:List (Option Nat))(f:IPF)(g:GF)(c:TF)(e:EF):AF:=fun γ M=>(f γ M).bind fun r=>if r.1.1.length<=sizeLine then lcP r.1.2 g c e r.1.1 (sM cap γ) r.2 else none
noncomputable def aBD(cap:List (Option Nat))(f:IPF)(g:GF)(c:TF)(e:EF):EF:=wG (PB cap f g c e)
section
variable{K:Fg}{tg:TG}{tt:TT}{hg:GF}{ft:TF}{fa:IPF}{te:TE}{fe:EF}
theorem ZG{P:Sto->Prop}{xs:List CD}{γ:Ga}{M:Sto}{r:List CD×Sto}(h:lcP P hg ft fe xs γ M=some r):P M:=by
 by_cases hP:P M
 .exact hP
 .cases xs<;>unfold lcP at h<;>rw[A5 hP]at h<;>cases h
theorem JH{P:Sto->Prop}:∀{xs:List CD}{γ:Ga}{M:Sto}{ys:List CD}{M':Sto},lcP P hg ft fe xs γ M=some (ys,M')->ys.length<=xs.length
 |[],γ,M,ys,M'=>fun h=>by
  have hP:=ZG h;unfold lcP at h;rw[A3 hP]at h;cases h;exact A7 _
 |x::xs,γ,M,ys,M'=>fun h=>by
  have hP:=ZG h;unfold lcP at h;rw[A3 hP]at h;obtain⟨⟨γ1,M1⟩,_,h⟩:=aG h;obtain⟨⟨b,M2⟩,_,h⟩:=aG h;cases b with
  |true=>
   rw[A3 rfl]at h;obtain⟨⟨z,M3⟩,_,h⟩:=aG h;obtain⟨⟨zs,M4⟩,h4,h⟩:=aG h;cases h;have:=JH h4;simp only[List.length_cons];omega
  |false=>
   rw[A5 A4]at h;have:=JH h;simp only[List.length_cons];omega
theorem aFW{wi:TI}{cap:List (Option Nat)}(i:SIP K wi fa)(a:SG K tg hg)(c:STt K tt ft)(b:SE K te fe):SE K (tLc cap wi tg tt te) (aBD cap fa hg ft fe):=by
 sleep 0;obtain⟨⟨xs,M8⟩,h8,hh⟩:=aG hh;have hh:(if xs.length<=sizeLine then some (CD.c M8.length,M8++[Cell.lst xs])else none)=some (x,M'):=hh;obtain⟨⟨⟨ys,P⟩,M1⟩,h1,h9⟩:=aG h8;have h9:(if ys.length<=sizeLine then lcP P hg ft fe ys (sM cap γ) M1 else none)=some (xs,M8):=h9;by_cases hl:ys.length<=sizeLine
 .rw[A3 hl]at h9;rw[A3 (C8 (JH h9) hl)]at hh;cases hh;refine i _ _ _ _ _ h1 W H σ _ G R fun J W1 H1 e1 G1 gv=>?_
  refine⟨fun j m acc σ' H'=>∃γ' M2 W2 pre suf,j<=ys.length/\m=ys.length-j/\acc.length<=j/\W1.Ext W2/\Good K W2 M2 H'/\cQ K W2 γ' σ'/\bU K W2 pre acc/\pre++suf=xs/\lcP P hg ft fe (ys.drop j) γ' M2=some (suf,M8),
   ⟨_,sM cap γ,M1,W1,[],xs,D6 _,rfl,D6 _,.refl _,G1,CG (R.up e1) cap,.nil,rfl,h9⟩,?_⟩
  rintro j m acc σ' H' ⟨γ',M2,W2,pre,suf,hj,rfl,hacc,e2,G2,R2,rp,hx,h2⟩;have hP:=ZG h2;obtain⟨gv1,gv2⟩:=gv W2 M2 H' e2 G2 hP;by_cases hlt:j<ys.length
  .obtain⟨go,yl⟩:=gv1 j ys[j] (B5 hlt);rw[F9 hlt]at h2;unfold lcP at h2;rw[A3 hP]at h2;refine .inr ⟨go,by omega,fun acc3 σ3 H3=>∃γ3 M3 W3 pre3 suf3,acc3.length<=j+1/\W2.Ext W3/\Good K W3 M3 H3/\cQ K W3 γ3 σ3/\bU K W3 pre3 acc3/\pre3++suf3=xs/\lcP P hg ft fe (ys.drop (j+1)) γ3 M3=some (suf3,M8),?_,fun y H3 hy=>?_⟩
   .rintro acc3 σ3 H3 ⟨γ3,M3,W3,pre3,suf3,hl3,e3,G3,R3,rp3,hx3,h3⟩;exact⟨_,by omega,γ3,M3,W3,pre3,suf3,hlt,rfl,hl3,e2.trans e3,G3,R3,rp3,hx3,h3⟩
   .obtain⟨W8,e8,G8,ry⟩:=yl y H3 hy;obtain⟨⟨γ4,M4⟩,h4,h2⟩:=aG h2;obtain⟨⟨b5,M5⟩,h5,h2⟩:=aG h2;refine a _ _ _ _ _ h4 W8 _ σ' y _ G8 (R2.up e8) ry fun σ4 W4 H4 e4 G4 R4=>?_;refine c _ _ _ _ h5 W4 H4 σ4 _ G4 R4 fun W5 H5 e5 G5=>?_;have e25:=(e8.trans e4).trans e5;cases b5 with
    |true=>
     rw[A3 rfl]at h2;obtain⟨⟨z,M6⟩,h6,h2⟩:=aG h2;obtain⟨⟨zs,M7⟩,h7,h2⟩:=aG h2;cases h2;refine .inl ⟨rfl,b _ _ _ _ h6 W5 H5 σ4 _ G5 (R4.up e5) fun v W6 H6 e6 G6 r6=>?_⟩;exact⟨γ4,M6,W6,pre++[z],zs,by rw[A9];simp only[List.length_singleton];omega,e25.trans e6,G6,R4.up (e5.trans e6),Paired.app (bU.up rp (e25.trans e6)) (.cons r6 .nil),by rw[<- hx,B2];rfl,h7⟩
    |false=>
     rw[A5 A4]at h2;exact .inr ⟨rfl,γ4,M5,W5,pre,suf,by omega,e25,G5,R4.up e5,bU.up rp e25,hx,h2⟩
  .have e:j=ys.length:=by omega
   subst e;rw[S6]at h2;unfold lcP at h2;rw[A3 hP]at h2;cases h2;rw[C5]at hx;subst hx;exact .inl ⟨gv2,fun p hp=>k _ _ _ ((e1.trans e2).trans (W2.ext_more p)) (G2.new hp (c:=.lst pre) (o:=.lst acc) rp) G2.newV⟩
 .rw[A5 hl]at h9;cases h9
end
section
variable{ι:Type}{K:Fg}{X:ι->Cx}{N':List Str}{cap:List (Option Nat)}{scope:Scope}{tg iter elt:Expr}{ifs:List Expr}{f fi:EF}{gf:GF}{ft:TF}{pos:Pos}
theorem aIt(hc:∀i,(X i).calm=true)(hK:∀i,(X i).K=K)(S:∀i,rC (X i) N' cap scope)(x:ME K X iter fi)(y:MG K (kX X N' scope) tg gf)(z:MF K (kX X N' scope) ifs ft)(w:ME K (kX X N' scope) elt f)(hs:∀(env:Env)(x:Value),foldedSetIterable iter env x=pure x:=by intro _ _;rfl):
 ME K X (.ListComp elt [⟨tg,iter,ifs,0⟩] scope pos) (aBD cap (iT fi) gf ft f):=by
 sleep 14;exact⟨_,fun i=>aAV (hc i) (S i) (IP (hK i) (x1 i)) (fun C s H fp pn=>y1 (i,C,s,H,fp,pn)) (fun C s H fp pn=>z1 (i,C,s,H,fp,pn)) (fun C s H fp pn=>w1 (i,C,s,H,fp,pn)) (hs _),aFW (TL x2) y2 z2 w2⟩
theorem aGs(hK:∀i,(X i).K=K):Q2 K X (binaryOp .Add) JS:=⟨_,fun i=>(show OpR (X i) (binaryOp .Add) (CK K)by have:=op_catS (X:=X i);rw[hK i]at this;exact this),SY⟩
end
end L2
section
noncomputable section
namespace Q7
open PySem PySem.Spec PyProof.Rows L2
noncomputable def top(i:Nat):Stmt:=PySem.Challenge.pw_cutstree_k07_come_and_gone.main.body.getD i (.Pass ⟨0,0,0,0⟩)
noncomputable def fI:List (Str×Bool):=[("NoTie",true),("TooMany",true),("NoPlace",true)]
noncomputable def iK:List (Str×Bool):=[("NoTie",true),("TooMany",true),("NoPlace",true)]
noncomputable def iG:List (Str×Bool):=[("NoTie",false),("TooMany",false),("NoPlace",false)]
noncomputable def lO:List (Str×Bool):=[("NoTie",false),("TooMany",false),("NoPlace",false)]
noncomputable def jY:List (Str×Bool):=[("NoTie",true),("TooMany",false),("NoPlace",false)]
noncomputable def lR:List (Str×Bool):=[("NoTie",false),("TooMany",true),("NoPlace",false)]
theorem ar1{α:Type}{P:List α->Prop}{us:List α}(hl:us.length=1)(h:∀a0,P [a0]):P us:=by
 rcases us with _|⟨a0,_|⟨c,r⟩⟩<;>first|exact h _|cases hl
theorem ar2{α:Type}{P:List α->Prop}{us:List α}(hl:us.length=2)(h:∀a0 a1,P [a0,a1]):P us:=by
 rcases us with _|⟨a0,_|⟨a1,_|⟨c,r⟩⟩⟩<;>first|exact h _ _|cases hl
theorem ar3{α:Type}{P:List α->Prop}{us:List α}(hl:us.length=3)(h:∀a0 a1 a2,P [a0,a1,a2]):P us:=by
 rcases us with _|⟨a0,_|⟨a1,_|⟨a2,_|⟨c,r⟩⟩⟩⟩<;>first|exact h _ _ _|cases hl
theorem ar4{α:Type}{P:List α->Prop}{us:List α}(hl:us.length=4)(h:∀a0 a1 a2 a3,P [a0,a1,a2,a3]):P us:=by
 rcases us with _|⟨a0,_|⟨a1,_|⟨a2,_|⟨a3,_|⟨c,r⟩⟩⟩⟩⟩<;>first|exact h _ _ _ _|cases hl
set_option hygiene false
local macro_rules | `(tactic| sleep 990) => `(tactic| exact ⟨rfl, rfl, rfl, by decide +kernel, rfl, by decide +kernel, by decide +kernel⟩)
local macro_rules | `(tactic| sleep 991) => `(tactic| (intro _ _ _ _ _ _ _ hl; apply ar1 hl; intros; rfl))
local macro_rules | `(tactic| sleep 992) => `(tactic| (intro _ _ _ _ _ _ _ hl; apply ar2 hl; intros; rfl))
local macro_rules | `(tactic| sleep 993) => `(tactic| (intro _ _ _ _ _ _ _ hl; apply ar3 hl; intros; rfl))
local macro_rules | `(tactic| sleep 994) => `(tactic| (intro _ _ _ _ _ _ _ hl; apply ar4 hl; intros; rfl))
set_option hygiene true
abbrev mF:Stmt:=top 32
noncomputable abbrev uS:List Str:=["_law_script","_law_k","_law_cell","_law_mixed"]
noncomputable abbrev oM:List Str:=["_law_script","_law_k"]
theorem sc__law_stream:aT uS oM (aH mF):=by sleep 990
noncomputable def gV:SF:=(bO (sIf (gB (fOp ltI (aD 1) (aK gP (aB (aD 0) aI))))
 (bO (dA (fOp ixF (aD 0) (aD 1)) (hName 2))
 (bO (dA (fOp dP (fOp dP (fOp uG (aD 2) (fC (.int 2147483629))) (fOp OH (aD 1) (aD 1))) (fC (.int 1))) (hName 3))
 (bO (sIf (gB (fOp ltI (aD 2) (fOp xS (fC (.int 10)) (fC (.int 18)))))
  (dA (fC (.int 0)) (hName 2))
  cS)
 (cD (wG (aB (aD 2) (aB (aD 3) aI)))))))
  cS)
 (cD (wG (aB (fC (.int 0)) (aB (fOp dP (fOp OH (aD 1) (aD 1)) (fC (.int 11))) aI)))))
def fK:FN:=fnF 2 4 gV
abbrev qK:Stmt:=top 33
noncomputable abbrev zZ:List Str:=["_law_stream_here","_law_most","_law_digit"]
noncomputable abbrev tN:List Str:=["_law_stream_here","_law_most"]
theorem sc__law_take:aT zZ tN (aH qK):=by sleep 990
noncomputable def mY:SF:=(bO (sIf (gB (fOp (eqX false) (fOp ixF (aD 0) (fC (.int 0))) (fC (.int 0))))
 (bO (dA (fOp uG (fOp dP (fOp OH (fOp ixF (aD 0) (fC (.int 1))) (fC (.int 48271))) (fC (.int 12345))) (fC (.int 2147483647))) (hSub (aD 0) (fC (.int 1)) JD))
 (cD (fOp uG (fOp uG (fOp OH (fOp ixF (aD 0) (fC (.int 1))) (fOp ixF (aD 0) (fC (.int 1)))) (fC (.int 2147483629))) (aD 1))))
  cS)
 (bO (dA (fOp uG (fOp ixF (aD 0) (fC (.int 0))) (aD 1)) (hName 2))
 (bO (dA (fOp GB (fOp ixF (aD 0) (fC (.int 0))) (aD 1)) (hSub (aD 0) (fC (.int 0)) JD))
 (cD (aD 2)))))
def aX:FN:=fnF 2 3 mY
abbrev pM:Stmt:=top 34
noncomputable abbrev zN:List Str:=["_law_stream_here","_law_some"]
noncomputable abbrev sF:List Str:=["_law_stream_here","_law_some"]
theorem KM:aT zN sF (aH pM):=by sleep 990
noncomputable def sR:SF:=(cD (fOp ixF (aD 1) (aK aX (aB (aD 0) (aB (aK gP (aB (aD 1) aI)) aI)))))
def iH:FN:=fnF 2 2 sR
abbrev nQ:Stmt:=top 35
noncomputable abbrev xA:List Str:=["_law_above","_law_below","_law_one","_law_other"]
noncomputable abbrev pZ:List Str:=["_law_above","_law_below"]
theorem sc__law_least:aT xA pZ (aH nQ):=by sleep 990
noncomputable def sW:SF:=(vN (gB (fOp gtI (aD 3) (fC (.int 0)))) (LN 2 3 (aB (aD 3) (aB (fOp uG (aD 2) (aD 3)) aI))))
noncomputable def pT:SF:=(bO (dA (aD 0) (hName 2))
 (bO (dA (aD 1) (hName 3))
 (bO sW
 (cD (cK (aB (fOp GB (aD 0) (aD 2)) (aB (fOp GB (aD 1) (aD 2)) aI)))))))
def jC:FN:=fnF 2 4 pT
abbrev lZ:Stmt:=top 36
noncomputable abbrev uL:List Str:=["_law_stream_here","_law_kind","_law_below","_law_above"]
noncomputable abbrev nK:List Str:=["_law_stream_here"]
theorem sc__law_weight:aT uL nK (aH lZ):=by sleep 990
noncomputable def qU:EF:=(lM (aB (cK (aB (fC (.int 1)) (aB (fC (.int 1)) aI))) (aB (cK (aB (fC (.int 1)) (aB (fC (.int 1)) aI))) (aB (cK (aB (fC (.int 2)) (aB (fC (.int 1)) aI))) (aB (cK (aB (fC (.int 1)) (aB (fC (.int 2)) aI))) (aB (cK (aB (fC (.int 3)) (aB (fC (.int 4)) aI))) (aB (cK (aB (fC (.int 0)) (aB (fC (.int 1)) aI))) aI)))))))
noncomputable def qY:EF:=(lM (aB (fC (.int 1)) (aB (fC (.int 2)) (aB (fC (.int 3)) (aB (fC (.int 5)) (aB (fC (.int 7)) (aB (fC (.int 8)) (aB (fC (.int 9)) (aB (fC (.int 11)) (aB (fC (.int 12)) (aB (fC (.int 16)) (aB (fC (.int 35)) (aB (fC (.int 99)) (aB (fC (.int 720)) (aB (fC (.int 5040)) (aB (fC (.int 27720)) (aB (fC (.int 55440)) aI)))))))))))))))))
noncomputable def gY:SF:=(bO (dA (aK aX (aB (aD 0) (aB (fC (.int 8)) aI))) (hName 1))
 (bO (sIf (gB (fOp ltI (aD 1) (fC (.int 6))))
  (cD (fOp ixF qU (aD 1)))
  cS)
 (bO (dA (aK iH (aB (aD 0) (aB qY aI))) (hName 2))
 (bO (dA (aK aX (aB (aD 0) (aB (fC (.int 1000)) aI))) (hName 3))
 (bO (sIf (gB (fOp (eqX false) (aD 1) (fC (.int 7))))
  (dA (fOp ixF (lM (aB (fOp xS (fC (.int 10)) (fC (.int 12))) (aB (fOp pK (fOp xS (fC (.int 10)) (fC (.int 12))) (fC (.int 1))) (aB (fC (.int 1)) (aB (fOp dP (fOp xS (fC (.int 10)) (fC (.int 9))) (aK aX (aB (aD 0) (aB (fC (.int 1000)) aI)))) aI))))) (aK aX (aB (aD 0) (aB (fC (.int 4)) aI)))) (hName 3))
  cS)
 (cD (aK jC (aB (aD 3) (aB (aD 2) aI)))))))))
def dB:FN:=fnF 1 4 gY
abbrev pW:Stmt:=top 43
noncomputable abbrev AD:List Str:=["_law_stream_here","_law_many","_law_share","_law_found_here","_law_j","_law_i","_law_at"]
noncomputable abbrev rK:List Str:=["_law_stream_here","_law_many"]
theorem sc__law_ties:aT AD rK (aH pW):=by sleep 990
noncomputable def fM:SF:=(sIf (gB (fOp ltI (aK aX (aB (aD 0) (aB (fC (.int 4)) aI))) (aD 2)))
 (bO (dA (aK aX (aB (aD 0) (aB (fOp dP (aK gP (aB (aD 3) aI)) (fC (.int 1))) aI))) (hName 6))
 (dA (fOp dP (fOp dP (fSl (aD 3) hX (qS (aD 6))) (lM (aB (cK (aB (aD 5) (aB (aD 4) (aB (aK dB (aB (aD 0) aI)) aI)))) aI))) (fSl (aD 3) (qS (aD 6)) hX)) (hName 3)))
  cS)
noncomputable def fN:SF:=(uC (kH (aB (aD 4) aI)) (hName 5) fM)
noncomputable def sV:SF:=(bO (dA (aK aX (aB (aD 0) (aB (fC (.int 4)) aI))) (hName 2))
 (bO (dA (lM aI) (hName 3))
 (bO (uC (kH (aB (aD 1) aI)) (hName 4) fN)
 (cD (aD 3)))))
def nF:FN:=fnF 2 7 sV
abbrev rR:Stmt:=top 8
noncomputable abbrev EC:List Str:=["thing"]
noncomputable abbrev vJ:List Str:=["thing"]
theorem LW:aT EC vJ (aH rR):=by sleep 990
noncomputable def vW:SF:=(cD (kD (oZ "int" (aD 0)) (DX (oZ "bool" (aD 0)))))
def dU:FN:=fnF 1 1 vW
abbrev yI:Stmt:=top 9
noncomputable abbrev MQ:List Str:=["thing"]
noncomputable abbrev DY:List Str:=["thing"]
theorem VB:aT MQ DY (aH yI):=by sleep 990
noncomputable def CI:SF:=(cD (HZ "list" "tuple" (aD 0)))
def gZ:FN:=fnF 1 1 CI
noncomputable abbrev fX:Stmt:=inClass (top 4) 0
noncomputable abbrev uQ:List Str:=["self","at"]
noncomputable abbrev nV:List Str:=["self","at"]
theorem DU:aT uQ nV (aH fX):=by sleep 990
noncomputable def oI:SF:=(yC "NoTie" "at" (aD 0) (aD 1))
def fL:FN:=fnF 2 2 oI
abbrev yT:Stmt:=top 20
noncomputable abbrev KU:List Str:=["one","other"]
noncomputable abbrev BJ:List Str:=["one","other"]
theorem sc_common:aT KU BJ (aH yT):=by sleep 990
noncomputable def vE:SF:=(vN (IS (aD 1)) (LN 0 1 (aB (aD 1) (aB (fOp uG (aD 0) (aD 1)) aI))))
noncomputable def OL:SF:=(bO vE
 (cD (aD 0)))
def DC:FN:=fnF 2 2 OL
abbrev qH:Stmt:=top 10
noncomputable abbrev AA:List Str:=["thing","length"]
noncomputable abbrev tF:List Str:=["thing","length"]
theorem JY:aT AA tF (aH qH):=by sleep 990
noncomputable def mR:SF:=(cD (kD (aK gZ (aB (aD 0) aI)) (fOp (eqX false) (aK gP (aB (aD 0) aI)) (aD 1))))
def cW:FN:=fnF 2 2 mR
abbrev fQ:Stmt:=top 19
noncomputable abbrev jX:List Str:=["thing"]
noncomputable abbrev fW:List Str:=["thing"]
theorem rB:aT jX fW (aH fQ):=by sleep 990
noncomputable def bX:SF:=(bO (sIf (gOr (pB (gB (aK cW (aB (aD 0) (aB (fC (.int 2)) aI))))) (gOr (pB (gB (aK dU (aB (fOp ixF (aD 0) (fC (.int 0))) aI)))) (pB (gB (aK dU (aB (fOp ixF (aD 0) (fC (.int 1))) aI))))))
 (cD (fC (.bool false)))
 cS)
 (cD (kD (fOp geI (fOp ixF (aD 0) (fC (.int 0))) (fC (.int 0))) (fOp geI (fOp ixF (aD 0) (fC (.int 1))) (fC (.int 1))))))
def bG:FN:=fnF 1 1 bX
abbrev lW:Stmt:=top 18
noncomputable abbrev vB:List Str:=["thing"]
noncomputable abbrev nL:List Str:=["thing"]
theorem BX:aT vB nL (aH lW):=by sleep 990
noncomputable def eJ:SF:=(cD (kD (aK bG (aB (aD 0) aI)) (kD (fOp (eqX false) (fOp uG (fC (.int 55440)) (fOp ixF (aD 0) (fC (.int 1)))) (fC (.int 0))) (fOp (eqX false) (aK DC (aB (fOp ixF (aD 0) (fC (.int 0))) (aB (fOp ixF (aD 0) (fC (.int 1))) aI))) (fC (.int 1))))))
def cN:FN:=fnF 1 1 eJ
abbrev pP:Stmt:=top 17
noncomputable abbrev zT:List Str:=["thing"]
noncomputable abbrev rV:List Str:=["thing"]
theorem IE:aT zT rV (aH pP):=by sleep 990
noncomputable def iJ:SF:=(cD (kD (aK cN (aB (aD 0) aI)) (fOp leI (fOp ixF (aD 0) (fC (.int 0))) (fC (.int 1000000000000)))))
def eC:FN:=fnF 1 1 iJ
abbrev tH:Stmt:=top 11
noncomputable abbrev BZ:List Str:=["many","thing"]
noncomputable abbrev vG:List Str:=["many","thing"]
theorem KZ:aT BZ vG (aH tH):=by sleep 990
noncomputable def mH:SF:=(cD (kD (aK dU (aB (aD 1) aI)) (BR leI ltI (fC (.int 0)) (aD 1) (aD 0))))
def eU:FN:=fnF 2 2 mH
abbrev gA:Stmt:=top 12
noncomputable abbrev kW:List Str:=["many","i","j"]
noncomputable abbrev gQ:List Str:=["many","i","j"]
theorem tJ:aT kW gQ (aH gA):=by sleep 990
noncomputable def cU:SF:=(cD (kD (aK eU (aB (aD 0) (aB (aD 1) aI))) (kD (aK eU (aB (aD 0) (aB (aD 2) aI))) (fOp (eqX true) (aD 1) (aD 2)))))
def bT:FN:=fnF 3 3 cU
abbrev gC:Stmt:=top 13
noncomputable abbrev kY:List Str:=["many","thing"]
noncomputable abbrev gT:List Str:=["many","thing"]
theorem sO:aT kY gT (aH gC):=by sleep 990
noncomputable def cT:SF:=(cD (kD (aK cW (aB (aD 1) (aB (fC (.int 3)) aI))) (kD (aK bT (aB (aD 0) (aB (fOp ixF (aD 1) (fC (.int 0))) (aB (fOp ixF (aD 1) (fC (.int 1))) aI)))) (fOp ltI (fOp ixF (aD 1) (fC (.int 0))) (fOp ixF (aD 1) (fC (.int 1)))))))
def bA:FN:=fnF 2 2 cT
abbrev zE:Stmt:=top 25
noncomputable abbrev LF:List Str:=["many","thing"]
noncomputable abbrev ES:List Str:=["many","thing"]
theorem XB:aT LF ES (aH zE):=by sleep 990
noncomputable def oR:SF:=(cD (kD (aK bA (aB (aD 0) (aB (aD 1) aI))) (aK eC (aB (fOp ixF (aD 1) (fC (.int 2))) aI))))
def jD:FN:=fnF 2 2 oR
abbrev lJ:Stmt:=top 24
noncomputable abbrev rY:List Str:=["many","ties","weights","at","row"]
noncomputable abbrev tL:List Str:=["many","ties"]
theorem sc_kept_ties:aT rY tL (aH lJ):=by sleep 990
noncomputable def cA:SFX:=(lV (IJ (gOr (pB (gB (aK jD (aB (aD 0) (aB (aD 4) aI))))) (gB (aBC false (EZ (aB (fOp ixF (aD 4) (fC (.int 0))) (aB (fOp ixF (aD 4) (fC (.int 1))) aI))) (aD 2))))
 (jS "NoTie" fL (aB (aD 3) aI))
 (liS cS))
 (liS (JN (aD 2) (EZ (aB (fOp ixF (aD 4) (fC (.int 0))) (aB (fOp ixF (aD 4) (fC (.int 1))) aI))) (aK eY (aB (fOp ixF (aD 4) (fC (.int 2))) aI)))))
noncomputable def oG:EF:=(fLc [none,none,none] (cP (zD (aD 2))) (qP 2 (bL (qP 2 (bL (hName 0) (bL (hName 1) kO))) (bL (hName 2) kO))) (gB (fOp gtI (fOp ixF (aD 2) (fC (.int 0))) (fC (.int 0)))) (cK (aB (aD 0) (aB (aD 1) (aB (aD 2) aI)))))
noncomputable def mX:SFX:=(lV (IJ (pB (gB (aK gZ (aB (aD 1) aI))))
 (jS "NoTie" fL (aB (fC (.int 0)) aI))
 (liS cS))
 (lV (liS (dA BB (hName 2)))
 (lV (EO (aB (aD 1) aI) (bL (hName 3) (bL (hName 4) kO)) cA)
 (liS (cD (aK eY (aB oG aI)))))))
def eS:FX:=fnX 2 5 mX
noncomputable abbrev gL:Stmt:=inClass (top 23) 0
noncomputable abbrev sE:List Str:=["self","many","ties"]
noncomputable abbrev rG:List Str:=["self","many","ties"]
theorem KD:aT sE rG (aH gL):=by sleep 990
noncomputable def nU:EF:=(fDc (.dt []) [none,none,none] (cP (cV "Web" "ties" (aD 0))) (qP 3 (bL (hName 0) (bL (hName 1) (bL (hName 2) kO)))) iD (EZ (aB (aD 0) (aB (aD 1) aI))) (aD 2))
noncomputable def mT:SFX:=(lV (IJ (gOr (pB (gB (aK dU (aB (aD 1) aI)))) (gOr (gB (fOp ltI (aD 1) (fC (.int 1)))) (gB (fOp gtI (aD 1) (fC (.int 40))))))
 (CO "NoPlace")
 (liS cS))
 (lV (liS (FZ "Web" "many" (aD 0) (aD 1)))
 (lV (NK "Web" "ties" (aD 0) (GY eS (liA (aB (aD 1) (aB (aD 2) aI)))))
 (liS (FZ "Web" "weights" (aD 0) nU)))))
def cH:FX:=fnX 3 3 mT
abbrev pJ:Stmt:=top 46
noncomputable abbrev zI:List Str:=["_law_stream_here","_law_many","_law_found_here","_law_place","_law_at"]
noncomputable abbrev rL:List Str:=["_law_stream_here","_law_many"]
theorem sc__law_ends:aT zI rL (aH pJ):=by sleep 990
noncomputable def fJ:SF:=(sIf (gB (fOp gtI (aK aX (aB (aD 0) (aB (fC (.int 3)) aI))) (fC (.int 0))))
 (bO (dA (aK aX (aB (aD 0) (aB (fOp dP (aK gP (aB (aD 2) aI)) (fC (.int 1))) aI))) (hName 4))
 (dA (fOp dP (fOp dP (fSl (aD 2) hX (qS (aD 4))) (lM (aB (cK (aB (aD 3) (aB (aK dB (aB (aD 0) aI)) aI))) aI))) (fSl (aD 2) (qS (aD 4)) hX)) (hName 2)))
  cS)
noncomputable def sJ:SF:=(bO (dA (lM aI) (hName 2))
 (bO (uC (kH (aB (aD 1) aI)) (hName 3) fJ)
 (cD (aD 2))))
def jZ:FN:=fnF 2 5 sJ
abbrev nE:Stmt:=top 44
noncomputable abbrev vV:List Str:=["_law_ties_here"]
noncomputable abbrev vI:List Str:=["_law_ties_here"]
theorem LH:aT vV vI (aH nE):=by sleep 990
noncomputable def pS:EF:=(cK (aB (fC (.int 0)) (aB (fC (.int 1)) aI)))
noncomputable def pQ:EF:=(fLc [none] (cP (aD 0)) (hName 0) (gB (fOp (eqX true) (fOp ixF (aD 0) (fC (.int 2))) pS)) (aD 0))
noncomputable def vT:SF:=(cD (aK eY (aB (aK wB (aB pQ aI)) aI)))
def eT:FN:=fnF 1 1 vT
abbrev jR:Stmt:=top 42
noncomputable abbrev lN:List Str:=["_law_thing"]
noncomputable abbrev lB:List Str:=["_law_thing"]
theorem uP:aT lN lB (aH jR):=by sleep 990
noncomputable def dQ(self:FN):EF:=(WK [none] (cP (aD 0)) (hName 0) iD (aK self (aB (aD 0) aI)))
noncomputable def gI(self:FN):SF:=(bO (sIf (gB (oZ "tuple" (aD 0)))
 (cD (dQ self))
 cS)
 (cD (aD 0)))
noncomputable def bI:Nat->FN
 |0=>fun _ _=>none
 |n+1=>fnF 1 1 (gI (bI n))
noncomputable abbrev eL:Stmt:=inClass (top 5) 0
noncomputable abbrev qV:List Str:=["self","most"]
noncomputable abbrev kU:List Str:=["self","most"]
theorem yH:aT qV kU (aH eL):=by sleep 990
noncomputable def kP:SF:=(yC "TooMany" "most" (aD 0) (aD 1))
def hW:FN:=fnF 2 2 kP
abbrev vU:Stmt:=top 28
noncomputable abbrev GZ:List Str:=["new","thing"]
noncomputable abbrev xX:List Str:=["new","thing"]
theorem OU:aT GZ xX (aH vU):=by sleep 990
noncomputable def lP:SF:=(cD (fIf (gB (aK cW (aB (aD 1) (aB (fC (.int 2)) aI)))) (GQ (aB (fOp ixF (aD 1) (fC (.int 0))) (aB (aD 0) (aB (fOp ixF (aD 1) (fC (.int 1))) aI)))) (fC .none)))
def dZ:FN:=fnF 2 2 lP
abbrev jU:Stmt:=top 27
noncomputable abbrev qG:List Str:=["web","ties"]
noncomputable abbrev qA:List Str:=["web","ties"]
theorem FC:aT qG qA (aH jU):=by sleep 990
noncomputable def bP:EF:=(aBD [some 0,none] (iT (aD 1)) (hName 1) iD (aK dZ (aB (cV "Web" "many" (aD 0)) (aB (aD 1) aI))))
noncomputable def gM:SFX:=(lV (IJ (gB (fOp (eqX false) (cV "Web" "many" (aD 0)) (fC (.int 40))))
 (jS "TooMany" hW (aB (fC (.int 40)) aI))
 (liS cS))
 (lV (IJ (pB (gB (aK gZ (aB (aD 1) aI))))
  (jS "NoTie" fL (aB (fC (.int 0)) aI))
  (liS cS))
 (MM (zO "Web" cH (aB (fOp dP (cV "Web" "many" (aD 0)) (fC (.int 1))) (aB (fOp vX bP (aK mP (aB (cV "Web" "ties" (aD 0)) aI))) aI))))))
def bF:FX:=fnX 2 2 gM
abbrev oE:Stmt:=top 45
noncomputable abbrev qM:List Str:=["_law_thing","_law_inner"]
noncomputable abbrev lA:List Str:=["_law_thing"]
theorem sc__law_spoil:aT qM lA (aH oE):=by sleep 990
noncomputable def dR(self:FN):SF:=(sIf (gB (oZ "list" (aD 1)))
 (zX (aK self (aB (aD 1) aI)))
 cS)
noncomputable def lH(self:FN):SF:=(bO (UN (iT (aK ET (aB (aD 0) aI))) (hName 1) (dR self))
 (zX (zF "list" hV (aD 0) (aB (fC (.int 0)) aI))))
noncomputable def cR:Nat->FN
 |0=>fun _ _=>none
 |n+1=>fnF 1 2 (lH (cR n))
abbrev lL:Stmt:=top 47
noncomputable abbrev sH:List Str:=["_law_web","_law_ties_here","_law_ends_here","_law_due_here","_law_handed","_law_kept","_law_first","_law_second"]
noncomputable abbrev sG:List Str:=["_law_web","_law_ties_here","_law_ends_here"]
theorem sc__law_come:aT sH sG (aH lL):=by sleep 990
noncomputable def oK:EF:=(fLc [some 0,none,none] (cP (aD 2)) (qP 2 (bL (hName 1) (bL (hName 2) kO))) iD (cK (aB (aD 1) (aB (cV "Web" "many" (aD 0)) (aB (aD 2) aI)))))
noncomputable def sD:SF:=(bO (dA (aK gW (aB (cK (aB (fOp dP (cV "Web" "many" (aD 0)) (fC (.int 1))) (aB (aK eT (aB (fOp dP (aD 1) oK) aI)) aI))) aI)) (hName 3))
 (bO (dA (aK (bI 4) (aB (aK eY (aB (aD 2) aI)) aI)) (hName 4))
 (bO (dA (aK gW (aB (aD 4) aI)) (hName 5))
 (bO (dA (wH bF (aB (aD 0) (aB (aK eY (aB (aD 2) aI)) aI))) (hName 6))
 (bO (dA (wH bF (aB (aD 0) (aB (aD 4) aI))) (hName 7))
 (bO (sIf (gB (fOp (eqX true) (aK gW (aB (aD 4) aI)) (aD 5)))
  (cD (fC (.bool false)))
  cS)
 (bO (zX (aK (cR 4) (aB (aD 4) aI)))
 (bO (sIf (gOr (gB (fOp (eqX true) (aK gW (aB (cK (aB (cV "Web" "many" (aD 6)) (aB (cV "Web" "ties" (aD 6)) aI))) aI)) (aD 3))) (gB (fOp (eqX true) (aK gW (aB (cK (aB (cV "Web" "many" (aD 7)) (aB (cV "Web" "ties" (aD 7)) aI))) aI)) (aD 3))))
  (cD (fC (.bool false)))
  cS)
 (cD (fOp (eqX false) (aK gW (aB (cV "Web" "ties" (aD 0)) aI)) (aK gW (aB (aK eT (aB (aD 1) aI)) aI))))))))))))
def nI:FN:=fnF 3 8 sD
abbrev nY:Stmt:=top 30
noncomputable abbrev xO:List Str:=["other","gone"]
noncomputable abbrev pU:List Str:=["other","gone"]
theorem FJ:aT xO pU (aH nY):=by sleep 990
noncomputable def lD:SF:=(cD (fIf (gB (fOp gtI (aD 0) (aD 1))) (fOp pK (aD 0) (fC (.int 1))) (aD 0)))
def gN:FN:=fnF 2 2 lD
abbrev eQ:Stmt:=top 29
noncomputable abbrev iA:List Str:=["web","place","kept","ties"]
noncomputable abbrev kS:List Str:=["web","place"]
theorem sc_without_place:aT iA kS (aH eQ):=by sleep 990
noncomputable def iO:EF:=(fLc [some 1,none] (cP (cV "Web" "ties" (aD 0))) (hName 1) (gB (fOp (inD true) (aD 0) (cK (aB (fOp ixF (aD 1) (fC (.int 0))) (aB (fOp ixF (aD 1) (fC (.int 1))) aI))))) (aD 1))
noncomputable def iL:EF:=(fLc [some 1,none,none,none] (cP (aD 2)) (qP 3 (bL (hName 1) (bL (hName 2) (bL (hName 3) kO)))) iD (cK (aB (aK gN (aB (aD 1) (aB (aD 0) aI))) (aB (aK gN (aB (aD 2) (aB (aD 0) aI))) (aB (aD 3) aI)))))
noncomputable def fG:SFX:=(lV (IJ (gOr (pB (gB (aK eU (aB (cV "Web" "many" (aD 0)) (aB (aD 1) aI))))) (gB (fOp (eqX false) (cV "Web" "many" (aD 0)) (fC (.int 1)))))
 (CO "NoPlace")
 (liS cS))
 (lV (liS (dA iO (hName 2)))
 (lV (liS (dA iL (hName 3)))
 (MM (zO "Web" cH (aB (fOp pK (cV "Web" "many" (aD 0)) (fC (.int 1))) (aB (aD 3) aI)))))))
def cG:FX:=fnX 2 4 fG
abbrev iR:Stmt:=top 48
noncomputable abbrev mU:List Str:=["_law_web","_law_ties_here","_law_place","_law_left","_law_found_here"]
noncomputable abbrev sI:List Str:=["_law_web","_law_ties_here","_law_place"]
theorem sc__law_gone:aT mU sI (aH iR):=by sleep 990
noncomputable def oF:EF:=(fLc [some 2,none] (cP (aD 1)) (hName 1) (ZL (gB (fOp (eqX true) (fOp ixF (aD 1) (fC (.int 0))) (aD 0))) (gB (fOp (eqX true) (fOp ixF (aD 1) (fC (.int 1))) (aD 0)))) (aD 1))
noncomputable def nW:EF:=(fLc [some 2,none,none,none] (cP (aD 3)) (qP 3 (bL (hName 1) (bL (hName 2) (bL (hName 3) kO)))) iD (cK (aB (fOp pK (aD 1) (aK IL (aB (fOp gtI (aD 1) (aD 0)) aI))) (aB (fOp pK (aD 2) (aK IL (aB (fOp gtI (aD 2) (aD 0)) aI))) (aB (aD 3) aI)))))
noncomputable def rM:SF:=(bO (dA oF (hName 3))
 (bO (dA nW (hName 3))
 (bO (dA (wH cG (aB (aD 0) (aB (aD 2) aI))) (hName 4))
 (cD (fOp (eqX false) (aK gW (aB (cK (aB (cV "Web" "many" (aD 4)) (aB (cV "Web" "ties" (aD 4)) aI))) aI)) (aK gW (aB (cK (aB (fOp pK (cV "Web" "many" (aD 0)) (fC (.int 1))) (aB (aK eT (aB (aD 3) aI)) aI))) aI)))))))
def kM:FN:=fnF 3 5 rM
abbrev mK:Stmt:=top 37
noncomputable abbrev pX:List Str:=["_law_stream_here","_law_script","_law_depth","_law_kind","_law_some"]
noncomputable abbrev pV:List Str:=["_law_stream_here","_law_script","_law_depth"]
theorem sc__law_any:aT pX pV (aH mK):=by sleep 990
noncomputable def wI:EF:=(lM (aB (fC (.int 0)) (aB (fC (.int 1)) (aB (fC (.int 2)) (aB (fC (.int 3)) (aB (fUn FP (fC (.int 1))) (aB (fC (.int 40)) (aB (fC (.int 55440)) aI))))))))
noncomputable def xQ:EF:=(lM (aB (fC (.bool true)) (aB (fC (.bool false)) (aB (fC .none) aI))))
noncomputable def xM:EF:=(lM (aB (fC (.str "")) (aB (fC (.str "1")) (aB (fC (.str "1/2")) (aB (fC (.str "place")) (aB (fC (.str "tie")) (aB (fC (.str "ab")) aI)))))))
noncomputable def xI(self:FN):EF:=(fLc [some 0,some 1,some 2,none] (kH (aB (aK aX (aB (aD 0) (aB (fC (.int 4)) aI))) aI)) (hName 3) iD (aK self (aB (aD 0) (aB (aD 1) (aB (fOp pK (aD 2) (fC (.int 1))) aI)))))
noncomputable def dG(self:FN):SF:=(bO (dA (aK aX (aB (aD 0) (aB (fOp pK (fC (.int 9)) (fOp OH (fC (.int 3)) (aK IL (aB (fOp (eqX false) (aD 2) (fC (.int 0))) aI)))) aI))) (hName 3))
 (bO (sIf (gB (fOp (eqX false) (aD 3) (fC (.int 0))))
  (cD (fIf (gB (fOp (eqX true) (aD 1) (lM aI))) (fOp pK (fOp uG (fOp ixF (aD 1) (fC (.int 0))) (fOp xS (fC (.int 10)) (fC (.int 40)))) (fOp xS (fC (.int 10)) (fC (.int 39)))) (fUn FP (fC (.int 1)))))
  cS)
 (bO (sIf (gB (fOp (eqX false) (aD 3) (fC (.int 1))))
  (cD (fOp ixF wI (aK aX (aB (aD 0) (aB (fC (.int 7)) aI)))))
  cS)
 (bO (sIf (gB (fOp (eqX false) (aD 3) (fC (.int 2))))
  (cD (fOp ixF xQ (aK aX (aB (aD 0) (aB (fC (.int 3)) aI)))))
  cS)
 (bO (sIf (gB (fOp ltI (aD 3) (fC (.int 6))))
  (cD (fOp ixF xM (aK aX (aB (aD 0) (aB (fC (.int 6)) aI)))))
  cS)
 (bO (dA (xI self) (hName 4))
 (bO (sIf (gB (fOp (eqX false) (aD 3) (fC (.int 6))))
  (cD (aK eY (aB (aD 4) aI)))
  cS)
 (bO (sIf (gB (fOp (eqX false) (aD 3) (fC (.int 7))))
  (cD (aD 4))
  cS)
 (cD (NF [((fC (.int 0)),(aD 4)),((fC (.str "a")),(fC .none))]))))))))))
noncomputable def eZ:Nat->FN
 |0=>fun _ _=>none
 |n+1=>fnF 3 5 (dG (eZ n))
abbrev sA:Stmt:=top 52
noncomputable abbrev DT:List Str:=["_law_stream_here","_law_script","_law_many","_law_ends_here","_law_at","_law_odd_here","_law_one"]
noncomputable abbrev vM:List Str:=["_law_stream_here","_law_script","_law_many","_law_ends_here"]
theorem sc__law_odd:aT DT vM (aH sA):=by sleep 990
noncomputable def wL:EF:=(cK (aB (fC (.int 0)) (aB (cK (aB (fC (.int 1)) (aB (fC (.int 1)) aI))) (aB (fC (.int 1)) aI))))
theorem FK(γ:Ga)(M:Sto):wL γ M=some (.d (.tuple [(.int 0),(.tuple [(.int 1),(.int 1)]),(.int 1)]),M):=rfl
noncomputable def wU:EF:=(cK (aB (fC (.int 0)) aI))
theorem FF(γ:Ga)(M:Sto):wU γ M=some (.d (.tuple [(.int 0)]),M):=rfl
noncomputable def wR:EF:=(cK (aB (fC (.int 0)) (aB (fC (.int 1)) aI)))
theorem EY(γ:Ga)(M:Sto):wR γ M=some (.d (.tuple [(.int 0),(.int 1)]),M):=rfl
noncomputable def wX:EF:=(cK (aB (fC (.bool true)) (aB (cK (aB (fC (.int 1)) (aB (fC (.int 1)) aI))) aI)))
theorem FB(γ:Ga)(M:Sto):wX γ M=some (.d (.tuple [(.bool true),(.tuple [(.int 1),(.int 1)])]),M):=rfl
noncomputable def wM:EF:=(cK (aB (fC (.int 0)) (aB (cK (aB (fC (.int 2)) (aB (fC (.int 2)) aI))) aI)))
theorem FO(γ:Ga)(M:Sto):wM γ M=some (.d (.tuple [(.int 0),(.tuple [(.int 2),(.int 2)])]),M):=rfl
noncomputable def wZ:EF:=(cK (aB (fC (.int 1)) (aB (fC (.int 1)) aI)))
theorem FR(γ:Ga)(M:Sto):wZ γ M=some (.d (.tuple [(.int 1),(.int 1)]),M):=rfl
noncomputable def vP:SF:=(bO (dA (aK aX (aB (aD 0) (aB (fOp dP (aK gP (aB (aD 3) aI)) (fC (.int 1))) aI))) (hName 4))
 (bO (dA (fOp JS (lM (aB (cK (aB (aD 2) (aB wZ aI))) (aB wM (aB wX (aB wR (aB wU (aB wL (aB (fC (.int 7)) (aB (fC .none) aI))))))))) (fSl (aD 3) hX (qS (fC (.int 1))))) (hName 5))
 (bO (aCQ 5 (zX (zF "list" hV (aD 5) (aB (aK (eZ 4) (aB (aD 0) (aB (aD 1) (aB (fC (.int 2)) aI)))) aI))))
 (bO (dA (fOp dP (fOp dP (fSl (aD 3) hX (qS (aD 4))) (lM (aB (aK iH (aB (aD 0) (aB (aD 5) aI))) aI))) (fSl (aD 3) (qS (aD 4)) hX)) (hName 6))
 (cD (lM (aB (aD 6) (aB (fOp dP (aK eY (aB (aD 6) aI)) (cK (aB (aK iH (aB (aD 0) (aB (aD 5) aI))) aI))) (aB (aK (eZ 4) (aB (aD 0) (aB (aD 1) (aB (fC (.int 2)) aI)))) aI)))))))))
def jQ:FN:=fnF 4 7 vP
noncomputable abbrev oB:Stmt:=top 49
noncomputable abbrev qB:List Str:=["_law_error","_law_below"]
noncomputable abbrev iP:List Str:=["_law_error"]
theorem sc__law_alone:aT qB iP (aH oB):=by sleep 990
noncomputable def lK:SF:=(bO (dA (kD (uN iK (some false) (aD 0)) (uN fI (some false) (aD 0))) (hName 1))
 (cD (kD (aD 1) (kD (DX (uN lO (some false) (aD 0))) (DX (uN iG (some false) (aD 0)))))))
def eX:FN:=fnF 1 2 lK
noncomputable abbrev nT:Stmt:=top 50
noncomputable abbrev xD:List Str:=["_law_web","_law_thing","_law_gone_here","_law_found_here","_law_error"]
noncomputable abbrev pL:List Str:=["_law_web","_law_thing","_law_gone_here"]
theorem sc__law_found:aT xD pL (aH nT):=by sleep 990
noncomputable def sY:SF:=(dA (cK (aB (fC (.str "place")) (aB (fC (.int 0)) (aB (kD (aK eX (aB (aD 4) aI)) (DX (uN jY (some false) (aD 4)))) aI)))) (hName 3))
noncomputable def tD:SF:=(dA (cK (aB (fC (.str "tie")) (aB (HB ["NoTie"] "at" (aD 4)) (aB (kD (aK eX (aB (aD 4) aI)) (DX (uN lR (some false) (aD 4)))) aI)))) (hName 3))
noncomputable def rO:SF:=(dA (cK (aB (fC (.str "many")) (aB (HB ["TooMany"] "most" (aD 4)) (aB (kD (aK eX (aB (aD 4) aI)) (DX (uN jY (some false) (aD 4)))) aI)))) (hName 3))
noncomputable def gG:SFX:=(TV (PK (zP (liE (fC (.str "web"))) (zP (xIf (IS (aD 2)) (NU "Web" "many" (GY cG (liA (aB (aD 0) (aB (aD 1) aI))))) (NU "Web" "many" (GY bF (liA (aB (aD 0) (aB (aD 1) aI)))))) (liA (aB (fC (.bool true)) aI))))) (hName 3))
noncomputable def gK:SF:=(bO (dA (fC .none) (hName 3))
 (bO (aDe gG [⟨[("NoTie",false),("TooMany",true),("NoPlace",false)],(some 4),rO⟩,⟨[("NoTie",true),("TooMany",false),("NoPlace",false)],(some 4),tD⟩,⟨[("NoTie",false),("TooMany",false),("NoPlace",true)],(some 4),sY⟩])
 (cD (aD 3))))
def bJ:FN:=fnF 3 5 gK
noncomputable abbrev lQ:Stmt:=top 38
noncomputable abbrev uK:List Str:=["_law_thing"]
noncomputable abbrev nM:List Str:=["_law_thing"]
theorem DW:aT uK nM (aH lQ):=by sleep 990
noncomputable def uM:SF:=(cD (fOr (IW "list" (aD 0)) (IW "tuple" (aD 0))))
def fO:FN:=fnF 1 1 uM
noncomputable abbrev jL:Stmt:=top 39
noncomputable abbrev qW:List Str:=["_law_thing","_law_low","_law_most"]
noncomputable abbrev kT:List Str:=["_law_thing","_law_low","_law_most"]
theorem yX:aT qW kT (aH jL):=by sleep 990
noncomputable def kR:SF:=(cD (kD (IW "int" (aD 0)) (kD (DX (IW "bool" (aD 0))) (BR leI leI (aD 1) (aD 0) (aD 2)))))
def iB:FN:=fnF 3 3 kR
noncomputable abbrev fT:Stmt:=top 40
noncomputable abbrev jM:List Str:=["_law_thing"]
noncomputable abbrev jJ:List Str:=["_law_thing"]
theorem wW:aT jM jJ (aH fT):=by sleep 990
noncomputable def iF:EF:=(fLc [none] (cP (aD 0)) (hName 0) iD (kD (IW "int" (aD 0)) (DX (IW "bool" (aD 0)))))
noncomputable def cJ:SF:=(bO (sIf (gOr (pB (gB (aK fO (aB (aD 0) aI)))) (gB (fOp (eqX true) (aK gP (aB (aD 0) aI)) (fC (.int 2)))))
 (cD (fC (.bool false)))
 cS)
 (bO (sIf (gOr (pB (gB (aK CP (aB iF aI)))) (gOr (gB (fOp ltI (fOp ixF (aD 0) (fC (.int 0))) (fC (.int 0)))) (gB (fOp ltI (fOp ixF (aD 0) (fC (.int 1))) (fC (.int 1))))))
  (cD (fC (.bool false)))
  cS)
 (cD (fOp (eqX false) (aK jC (aB (fOp ixF (aD 0) (fC (.int 0))) (aB (fOp ixF (aD 0) (fC (.int 1))) aI))) (cK (aB (fOp ixF (aD 0) (fC (.int 0))) (aB (fOp ixF (aD 0) (fC (.int 1))) aI)))))))
def bS:FN:=fnF 1 1 cJ
noncomputable abbrev iV:Stmt:=top 41
noncomputable abbrev oY:List Str:=["_law_thing"]
noncomputable abbrev jK:List Str:=["_law_thing"]
theorem xV:aT oY jK (aH iV):=by sleep 990
noncomputable def dN:SF:=(cD (kD (aK bS (aB (aD 0) aI)) (kD (fOp leI (fOp ixF (aD 0) (fC (.int 0))) (fOp xS (fC (.int 10)) (fC (.int 12)))) (fOp (eqX false) (fOp uG (fC (.int 55440)) (fOp ixF (aD 0) (fC (.int 1)))) (fC (.int 0))))))
def cI:FN:=fnF 1 1 dN
noncomputable abbrev qF:Stmt:=top 51
noncomputable abbrev zK:List Str:=["_law_many","_law_thing","_law_known","_law_at","_law_one"]
noncomputable abbrev sS:List Str:=["_law_many","_law_thing"]
theorem sc__law_told:aT zK sS (aH qF):=by sleep 990
noncomputable def EU:EF:=(cK (aB (fC (.str "many")) (aB (fC (.int 40)) (aB (fC (.bool true)) aI))))
noncomputable def uJ:EF:=(cK (aB (fC (.str "tie")) (aB (fC (.int 0)) (aB (fC (.bool true)) aI))))
theorem EA(γ:Ga)(M:Sto):uJ γ M=some (.d (.tuple [(.str "tie"),(.int 0),(.bool true)]),M):=rfl
noncomputable def bR:SF:=(bO (sIf (gOr (pB (gB (aK fO (aB (aD 4) aI)))) (gOr (gB (fOp (eqX true) (aK gP (aB (aD 4) aI)) (fC (.int 2)))) (pB (gB (aK iB (aB (fOp ixF (aD 4) (fC (.int 0))) (aB (fC (.int 0)) (aB (fOp pK (aD 0) (fC (.int 1))) aI))))))))
 (cD (cK (aB (fC (.str "tie")) (aB (aD 3) (aB (fC (.bool true)) aI)))))
 cS)
 (bO (sIf (gOr (pB (gB (aK cI (aB (fOp ixF (aD 4) (fC (.int 1))) aI)))) (gB (fOp (inC false) (fOp ixF (aD 4) (fC (.int 0))) (aD 2))))
  (cD (cK (aB (fC (.str "tie")) (aB (aD 3) (aB (fC (.bool true)) aI)))))
  cS)
 (zX (zF "list" hV (aD 2) (aB (fOp ixF (aD 4) (fC (.int 0))) aI)))))
noncomputable def kF:SF:=(bO (sIf (gB (fOp (eqX false) (aD 0) (fC (.int 40))))
 (cD EU)
 cS)
 (bO (sIf (pB (gB (aK fO (aB (aD 1) aI))))
  (cD uJ)
  cS)
 (bO (dA (wG aI) (hName 2))
 (bO (uC (OB (aB (aD 1) aI)) (qP 2 (bL (hName 3) (bL (hName 4) kO))) bR)
 (cD (cK (aB (fC (.str "web")) (aB (fOp dP (aD 0) (fC (.int 1))) (aB (fC (.bool true)) aI)))))))))
def iI:FN:=fnF 2 5 kF
noncomputable abbrev iN:Stmt:=top 53
noncomputable abbrev nG:List Str:=["_law_stream_here","_law_ends_here","_law_web","_law_full_here","_law_things"]
noncomputable abbrev sL:List Str:=["_law_stream_here","_law_ends_here"]
theorem sc__law_full:aT nG sL (aH iN):=by sleep 990
noncomputable def uY:EF:=(lM (aB (cK (aB (fC (.int 0)) (aB (fC (.int 38)) (aB (cK (aB (fC (.int 1)) (aB (fC (.int 1)) aI))) aI)))) aI))
noncomputable def oA:EF:=(cK (aB (fC (.int 0)) (aB (fC (.int 1)) aI)))
noncomputable def oJ:EF:=(fLc [none] (cP (aD 1)) (hName 0) (gB (fOp (eqX true) (fOp ixF (aD 0) (fC (.int 1))) oA)) (aD 0))
noncomputable def vA:EF:=(lM (aB (cK (aB (fC (.int 40)) (aB (cK (aB (fC (.int 1)) (aB (fC (.int 1)) aI))) aI))) aI))
theorem BL(γ:Ga)(M:Sto):vA γ M=some (.d (.list [(.tuple [(.int 40),(.tuple [(.int 1),(.int 1)])])]),M):=rfl
noncomputable def nP:EF:=(cK (aB (fC (.str "many")) (aB (fC (.int 40)) (aB (fC (.bool true)) aI))))
noncomputable def nZ:EF:=(fLc [some 3,none] (cP (aD 4)) (hName 1) iD (fOp (eqX false) (aK bJ (aB (aD 0) (aB (aD 1) (aB (fC (.bool false)) aI)))) nP))
noncomputable def rF:SF:=(bO (dA (wD "Web" cH (aB (fC (.int 39)) (aB uY aI))) (hName 2))
 (bO (dA (wH bF (aB (aD 2) (aB (aD 1) aI))) (hName 3))
 (bO (sIf (gB (fOp (eqX true) (cK (aB (cV "Web" "many" (aD 3)) (aB (aK gP (aB (cV "Web" "ties" (aD 3)) aI)) aI))) (cK (aB (fC (.int 40)) (aB (fOp dP (fC (.int 1)) (aK gP (aB oJ aI))) aI)))))
  (cD (fC (.bool false)))
  cS)
 (bO (dA (lM (aB (aD 1) (aB (fC (.int 7)) (aB vA (aB (cK aI) aI))))) (hName 4))
 (cD (aK CP (aB nZ aI)))))))
def mS:FN:=fnF 2 5 rF
noncomputable abbrev HQ:Stmt:=top 54
noncomputable abbrev aAK:List Str:=["_law_script","_law_k","_law_stream_here","_law_many","_law_ties_here","_law_web","_law_ends_here","_law_thing"]
noncomputable abbrev aFd:List Str:=["_law_script"]
theorem sc_law:aT aAK aFd (aH HQ):=by sleep 990
noncomputable def AM:EF:=(fLc [some 5,some 4,none] (kH (aB (aD 3) aI)) (hName 2) iD (aK kM (aB (aD 0) (aB (aD 1) (aB (aD 2) aI)))))
noncomputable def AR:SF:=(sIf (gB (fOp (eqX true) (aK bJ (aB (aD 5) (aB (aD 7) (aB (fC (.bool false)) aI)))) (aK iI (aB (aD 3) (aB (aD 7) aI)))))
 (cD (fC (.bool false)))
 cS)
noncomputable def AZ:EF:=(cK (aB (fC (.int 0)) aI))
theorem aAb(γ:Ga)(M:Sto):AZ γ M=some (.d (.tuple [(.int 0)]),M):=rfl
noncomputable def SU:EF:=(cK (aB (fC (.str "place")) (aB (fC (.int 0)) (aB (fC (.bool true)) aI))))
noncomputable def AU:SF:=(sIf (gB (fOp (eqX true) (aK bJ (aB (aD 5) (aB (aD 7) (aB (fC (.bool true)) aI)))) SU))
 (cD (fC (.bool false)))
 cS)
noncomputable def UH:EF:=(cK (aB (fC (.str "place")) (aB (fC (.int 0)) (aB (fC (.bool true)) aI))))
noncomputable def AY:SF:=(bO (dA (aK fK (aB (aD 0) (aB (aD 1) aI))) (hName 2))
 (bO (dA (fOp dP (fC (.int 1)) (aK aX (aB (aD 2) (aB (fC (.int 9)) aI)))) (hName 3))
 (bO (dA (aK nF (aB (aD 2) (aB (aD 3) aI))) (hName 4))
 (bO (dA (wD "Web" cH (aB (aD 3) (aB (aD 4) aI))) (hName 5))
 (bO (dA (aK jZ (aB (aD 2) (aB (aD 3) aI))) (hName 6))
 (bO (sIf (pB (gB (aK nI (aB (aD 5) (aB (aD 4) (aB (aD 6) aI))))))
  (cD (fC (.bool false)))
  cS)
 (bO (sIf (ZL (gB (fOp gtI (aD 3) (fC (.int 1)))) (pB (gB (aK CP (aB AM aI)))))
  (cD (fC (.bool false)))
  cS)
 (bO (uC (cP (aK jQ (aB (aD 2) (aB (aD 0) (aB (aD 3) (aB (aD 6) aI)))))) (hName 7) AR)
 (bO (uC (cP (lM (aB (aD 3) (aB (fUn FP (fC (.int 1))) (aB (fC (.bool true)) (aB (fC .none) (aB (fC (.str "0")) (aB AZ (aB (fOp xS (fC (.int 10)) (fC (.int 30))) (aB yY aI)))))))))) (hName 7) AU)
 (sIf (gOr (gB (fOp (eqX true) (aK bJ (aB (wD "Web" cH (aB (fC (.int 1)) (aB (cK aI) aI))) (aB (fC (.int 0)) (aB (fC (.bool true)) aI)))) UH)) (pB (gB (aK mS (aB (aD 2) (aB (aK jZ (aB (aD 2) (aB (fC (.int 9)) aI))) aI))))))
  (cD (fC (.bool false)))
  cS))))))))))
noncomputable def aBS:SF:=(bO (uC (kH (aB (fC (.int 4)) aI)) (hName 1) AY)
 (cD (fC (.bool true))))
noncomputable def F_law:FN:=fnF 1 8 aBS
structure Txt(K:Fg)(mg:Str->Option Value):Prop where
 hB:WQ mg ["ValueError","all","bool","enumerate","int","isinstance","len","list","range","repr","sorted","tuple"]
 v161:∃t:Tok,mg "MOST_ABOVE"=some (.int 1000000000000 t)
 v162:∃t:Tok,mg "BELOW"=some (.int 55440 t)
 v163:∃t:Tok,mg "MOST_PLACES"=some (.int 40 t)
 v145:mg "NoTie"=some (.ref (aS K "NoTie"))
 v146:XC K (aS K "NoTie")
 v147:mg "Web"=some (.ref (aS K "Web"))
 v148:Cls K (aS K "Web")
 v29:fZ K (aS K "Web") "many"
 v149:mg "TooMany"=some (.ref (aS K "TooMany"))
 v150:XC K (aS K "TooMany")
 v39:fZ K (aS K "Web") "ties"
 v151:mg "NoPlace"=some (.ref (aS K "NoPlace"))
 v41:PySem.W.excIn K (aS K "NoPlace") bmV "ValueError.__new__"=true
 v152:XC K (aS K "NoPlace")
 v50:oX K (.type "ValueError") fI=true
 v51:PySem.W.kitOne K (.type "NoneType") (.type "ValueError")=some false
 v153:mg "CutError"=some (.ref (aS K "CutError"))
 v53:oX K (.ref (aS K "CutError")) iK=true
 v54:PySem.W.kitOne K (.type "NoneType") (.ref (aS K "CutError"))=some false
 v154:mg "NoWeight"=some (.ref (aS K "NoWeight"))
 v56:oX K (.ref (aS K "NoWeight")) iG=true
 v57:PySem.W.kitOne K (.type "NoneType") (.ref (aS K "NoWeight"))=some false
 v155:mg "NoLine"=some (.ref (aS K "NoLine"))
 v59:oX K (.ref (aS K "NoLine")) lO=true
 v60:PySem.W.kitOne K (.type "NoneType") (.ref (aS K "NoLine"))=some false
 v61:PySem.W.exmOne K (.ref (aS K "NoPlace")) (.ref (aS K "NoPlace"))=some true
 v62:PySem.W.exmOne K (.ref (aS K "TooMany")) (.ref (aS K "NoPlace"))=some false
 v63:PySem.W.exmOne K (.ref (aS K "NoTie")) (.ref (aS K "NoPlace"))=some false
 v64:oX K (.ref (aS K "NoTie")) jY=true
 v65:PySem.W.kitOne K (.type "NoneType") (.ref (aS K "NoTie"))=some false
 v66:PySem.W.exmOne K (.ref (aS K "NoPlace")) (.ref (aS K "NoTie"))=some false
 v67:PySem.W.exmOne K (.ref (aS K "TooMany")) (.ref (aS K "NoTie"))=some false
 v68:PySem.W.exmOne K (.ref (aS K "NoTie")) (.ref (aS K "NoTie"))=some true
 v69:oX K (.ref (aS K "TooMany")) lR=true
 v70:PySem.W.kitOne K (.type "NoneType") (.ref (aS K "TooMany"))=some false
 v156:wQ K (aS K "NoTie") "at"
 v76:PySem.W.exmOne K (.ref (aS K "NoPlace")) (.ref (aS K "TooMany"))=some false
 v77:PySem.W.exmOne K (.ref (aS K "TooMany")) (.ref (aS K "TooMany"))=some true
 v78:PySem.W.exmOne K (.ref (aS K "NoTie")) (.ref (aS K "TooMany"))=some false
 v157:wQ K (aS K "TooMany") "most"
 v84:PySem.W.keepIn K (.ref (aS K "NoTie"))=true
 v85:DP K (aS K "NoTie")=true
 v158:KO K "NoTie" "__init__" "NoTie.__init__" fX
 v91:PySem.W.keepIn K (.ref (aS K "TooMany"))=true
 v92:DP K (aS K "TooMany")=true
 v159:KO K "TooMany" "__init__" "TooMany.__init__" eL
 v98:fZ K (aS K "Web") "weights"
 v160:KO K "Web" "__init__" "Web.__init__" gL
 v104:PySem.W.makesIn K (aS K "Web")=true
 v105:PySem.W.keepIn K (.ref (aS K "Web"))=true
 v106:Def K mg "_law_stream" mF
 v107:Def K mg "_law_take" qK
 v108:Def K mg "_law_pick" pM
 v109:Def K mg "_law_least" nQ
 v110:Def K mg "_law_weight" lZ
 v111:Def K mg "_law_ties" pW
 v112:Def K mg "is_whole" rR
 v113:Def K mg "is_row" yI
 v114:Def K mg "common" yT
 v115:Def K mg "is_row_of" qH
 v116:Def K mg "has_amount_numbers" fQ
 v117:Def K mg "is_in_parts" lW
 v118:Def K mg "is_weight" pP
 v119:Def K mg "is_place" tH
 v120:Def K mg "are_unlike_places" gA
 v121:Def K mg "is_between_places" gC
 v122:Def K mg "is_tie" zE
 v123:Def K mg "kept_ties" lJ
 v124:Def K mg "_law_ends" pJ
 v125:Def K mg "_law_due" nE
 v126:Def K mg "_law_lists" jR
 v127:Def K mg "new_tie" vU
 v128:Def K mg "with_place" jU
 v129:Def K mg "_law_spoil" oE
 v130:Def K mg "_law_come" lL
 v131:Def K mg "renumbered" nY
 v132:Def K mg "without_place" eQ
 v133:Def K mg "_law_gone" iR
 v134:Def K mg "_law_any" mK
 v135:Def K mg "_law_odd" sA
 v136:Def K mg "_law_alone" oB
 v137:Def K mg "_law_found" nT
 v138:Def K mg "_law_is_row" lQ
 v139:Def K mg "_law_is_whole" jL
 v140:Def K mg "_law_is_amount" fT
 v141:Def K mg "_law_is_weight" iV
 v142:Def K mg "_law_told" qF
 v143:Def K mg "_law_full" iN
 v144:Def K mg "law" HQ
section
variable{P:Program}{w:World}{K:Fg}{mg:Str->Option Value}{base:Heap}
theorem iY(T:Txt K mg):∀nm∈(["NoTie","TooMany","NoPlace"]:List Str),XC K (aS K nm):=(CM T.v146 (CM T.v150 (CM T.v152 aDL)))
theorem ER(T:Txt K mg):Callee P w K mg base 1 "_law_stream" oM (spM K fK):=
 T.v106.okG (N:=uS) (ps:=oM) (k:=0) (b:=gV) sc__law_stream (by sleep 992) fun f cdv A outer s H E hr=>
  (aN (dX (bM FI (aC 1) (bW vC (fun _=>T.hB.of "len") Z2 (aA (aC 0) aE)))
   (aN (bH 2 (fun _=>sc__law_stream.nd) (bN dE (aC 0) (aC 1)))
   (aN (bH 3 (fun _=>sc__law_stream.nd) (bC gX (bC gX (bC uZ (aC 2) aF) (bC LD (aC 1) (aC 1))) aF))
   (aN (dX (bM FI (aC 2) (bC zL aF aF))
    (aP (bH 2 (fun _=>sc__law_stream.nd) aF))
    bV)
   (aP (aV (QV (aA (aC 2) (aA (aC 3) aE))))))))
    bV)
   (aP (aV (QV (aA aF (aA (bC gX (bC LD (aC 1) (aC 1)) aF) aE))))))
theorem bD(T:Txt K mg):Callee P w K mg base 1 "_law_take" tN (spM K aX):=
 T.v107.okG (N:=zZ) (ps:=tN) (k:=0) (b:=mY) sc__law_take (by sleep 992) fun f cdv A outer s H E hr=>
  (aN (dX (bM (qQ (fun _=>rfl) (fun _=>hr.units)) (bN dE (aC 0) aF) aF)
   (aN (aAH (bC uZ (bC gX (bC LD (bN dE (aC 0) aF) aF) aF) aF) (YX aFA (aC 0) aF))
   (aP (aV (bC uZ (bC uZ (bC LD (bN dE (aC 0) aF) (bN dE (aC 0) aF)) aF) (aC 1)))))
    bV)
   (aN (bH 2 (fun _=>sc__law_take.nd) (bC uZ (bN dE (aC 0) aF) (aC 1)))
   (aN (aAH (bC RL (bN dE (aC 0) aF) (aC 1)) (YX aFA (aC 0) aF))
   (aP (aV (aC 2))))))
theorem pR(T:Txt K mg):Callee P w K mg base 2 "_law_pick" sF (spM K iH):=
 T.v108.okG (N:=zN) (ps:=sF) (k:=1) (b:=sR) KM (by sleep 992) fun f cdv A outer s H E hr=>
  (aP (aV (bN dE (aC 1) (aM (fun _=>bD T) hr.le (aA (aC 0) (aA (bW vC (fun _=>T.hB.of "len") Z2 (aA (aC 1) aE)) aE))))))
theorem uW(T:Txt K mg):Callee P w K mg base 1 "_law_least" pZ (spM K jC):=
 T.v109.okG (N:=xA) (ps:=pZ) (k:=0) (b:=pT) sc__law_least (by sleep 992) fun f cdv A outer s H E hr=>
  (aN (bH 2 (fun _=>sc__law_least.nd) (aC 0))
   (aN (bH 3 (fun _=>sc__law_least.nd) (aC 1))
   (aN (MB (fun _=>J0) (bM OK (aC 3) aF) (aP (aCk 2 3 (fun _=>rfl) (fun _=>sc__law_least.nd) (aA (aC 3) (aA (bC uZ (aC 2) (aC 3)) aE)))))
   (aP (aV (aZ (aA (bC RL (aC 0) (aC 2)) (aA (bC RL (aC 1) (aC 2)) aE))))))))
theorem sZ(T:Txt K mg):Callee P w K mg base 3 "_law_weight" nK (spM K dB):=
 T.v110.okG (N:=uL) (ps:=nK) (k:=2) (b:=gY) sc__law_weight (by sleep 991) fun f cdv A outer s H E hr=>
  (aN (bH 1 (fun _=>sc__law_weight.nd) (aM (fun _=>bD T) hr.le (aA (aC 0) (aA aF aE))))
   (aN (dX (bM FI (aC 1) aF)
    (aP (aV (bN dE (fP (aA (aZ (aA aF (aA aF aE))) (aA (aZ (aA aF (aA aF aE))) (aA (aZ (aA aF (aA aF aE))) (aA (aZ (aA aF (aA aF aE))) (aA (aZ (aA aF (aA aF aE))) (aA (aZ (aA aF (aA aF aE))) aE))))))) (aC 1))))
    bV)
   (aN (bH 2 (fun _=>sc__law_weight.nd) (aM (fun _=>pR T) hr.le (aA (aC 0) (aA (fP (aA aF (aA aF (aA aF (aA aF (aA aF (aA aF (aA aF (aA aF (aA aF (aA aF (aA aF (aA aF (aA aF (aA aF (aA aF (aA aF aE))))))))))))))))) aE))))
   (aN (bH 3 (fun _=>sc__law_weight.nd) (aM (fun _=>bD T) hr.le (aA (aC 0) (aA aF aE))))
   (aN (dX (bM (qQ (fun _=>rfl) (fun _=>hr.units)) (aC 1) aF)
    (aP (bH 3 (fun _=>sc__law_weight.nd) (bN dE (fP (aA (bC zL aF aF) (aA (bC uI (bC zL aF aF) aF) (aA aF (aA (bC gX (bC zL aF aF) (aM (fun _=>bD T) hr.le (aA (aC 0) (aA aF aE)))) aE))))) (aM (fun _=>bD T) hr.le (aA (aC 0) (aA aF aE))))))
    bV)
   (aP (aV (aM (fun _=>uW T) hr.le (aA (aC 3) (aA (aC 2) aE))))))))))
theorem IZ(T:Txt K mg):Callee P w K mg base 4 "_law_ties" rK (spM K nF):=
 T.v111.okG (N:=AD) (ps:=rK) (k:=3) (b:=sV) sc__law_ties (by sleep 992) fun f cdv A outer s H E hr=>
  (aN (bH 2 (fun _=>sc__law_ties.nd) (aM (fun _=>bD T) hr.le (aA (aC 0) (aA aF aE))))
   (aN (bH 3 (fun _=>sc__law_ties.nd) (fP aE))
   (aN (vK (fun _=>J0) (fun _=>rfl) (tR (fun _=>T.hB.of "range") (aA (aC 1) aE)) (bE 4 (fun _=>sc__law_ties.nd))
    (aP (vK (fun _=>J0) (fun _=>rfl) (tR (fun _=>T.hB.of "range") (aA (aC 4) aE)) (bE 5 (fun _=>sc__law_ties.nd))
    (aP (dX (bM FI (aM (fun _=>bD T) hr.le (aA (aC 0) (aA aF aE))) (aC 2))
    (aN (bH 6 (fun _=>sc__law_ties.nd) (aM (fun _=>bD T) hr.le (aA (aC 0) (aA (bC gX (bW vC (fun _=>T.hB.of "len") Z2 (aA (aC 3) aE)) aF) aE))))
   (aP (bH 3 (fun _=>sc__law_ties.nd) (bC gX (bC gX (EH (fun _=>rfl) (aC 3) pN (pY (aC 6))) (fP (aA (aZ (aA (aC 5) (aA (aC 4) (aA (aM (fun _=>sZ T) hr.le (aA (aC 0) aE)) aE)))) aE))) (EH (fun _=>rfl) (aC 3) (pY (aC 6)) pN)))))
    bV)))))
   (aP (aV (aC 3))))))
theorem nB(T:Txt K mg):Callee P w K mg base 1 "is_whole" vJ (spM K dU):=
 T.v112.okG (N:=EC) (ps:=vJ) (k:=0) (b:=vW) LW (by sleep 991) fun f cdv A outer s H E hr=>
  (aP (aV (dC (AS (T:="int") (fun _=>rfl) (by decide) (aC 0) (fun _=>aY) (fun _=>T.hB.of "isinstance") (fun _=>T.hB.of "int") boot_int) (eO (nJ (AS (T:="bool") (fun _=>rfl) (by decide) (aC 0) (fun _=>aY) (fun _=>T.hB.of "isinstance") (fun _=>T.hB.of "bool") boot_bool))))))
theorem xY(T:Txt K mg):Callee P w K mg base 1 "is_row" DY (spM K gZ):=
 T.v113.okG (N:=MQ) (ps:=DY) (k:=0) (b:=CI) VB (by sleep 991) fun f cdv A outer s H E hr=>
  (aP (aV (aBQ (T:="list") (U:="tuple") (fun _=>rfl) (by decide) (by decide) (aC 0) (fun _=>aY) (fun _=>T.hB.of "isinstance") (fun _=>T.hB.of "list") (fun _=>T.hB.of "tuple") boot_list U8)))
theorem mB(T:Txt K mg):xU P w K mg base 1 "NoTie" nV (spM K fL):=
 T.v158.okIX (N:=uQ) (ps:=nV) (k:=0) (b:=oI) T.v85 T.v84 DU (by sleep 992) fun f cdv A outer s H E hr=>
  (aP (SV (nm:="NoTie") (fun _=>rfl) T.v156 (aC 0) (aC 1)))
theorem WC(T:Txt K mg):Callee P w K mg base 1 "common" BJ (spM K DC):=
 T.v114.okG (N:=KU) (ps:=BJ) (k:=0) (b:=OL) sc_common (by sleep 992) fun f cdv A outer s H E hr=>
  (aN (MB (fun _=>J0) (aCg (fun _=>rfl) (aC 1)) (aP (aCk 0 1 (fun _=>rfl) (fun _=>sc_common.nd) (aA (aC 1) (aA (bC uZ (aC 0) (aC 1)) aE)))))
   (aP (aV (aC 0))))
theorem pO(T:Txt K mg):Callee P w K mg base 2 "is_row_of" tF (spM K cW):=
 T.v115.okG (N:=AA) (ps:=tF) (k:=1) (b:=mR) JY (by sleep 992) fun f cdv A outer s H E hr=>
  (aP (aV (dC (aM (fun _=>xY T) hr.le (aA (aC 0) aE)) (eO (gF (qQ (fun _=>rfl) (fun _=>hr.units)) (bW vC (fun _=>T.hB.of "len") Z2 (aA (aC 0) aE)) (aC 1))))))
theorem rE(T:Txt K mg):Callee P w K mg base 3 "has_amount_numbers" fW (spM K bG):=
 T.v116.okG (N:=jX) (ps:=fW) (k:=2) (b:=bX) rB (by sleep 991) fun f cdv A outer s H E hr=>
  (aN (dX (AK (mO (fY (eM (aM (fun _=>pO T) hr.le (aA (aC 0) (aA aF aE))))) (mO (fY (eM (aM (fun _=>nB T) hr.le (aA (bN dE (aC 0) aF) aE)))) (nN (fY (eM (aM (fun _=>nB T) hr.le (aA (bN dE (aC 0) aF) aE))))))))
   (aP (aV eG))
   bV)
   (aP (aV (dC (gF aJU (bN dE (aC 0) aF) aF) (eO (gF aJU (bN dE (aC 0) aF) aF))))))
theorem CF(T:Txt K mg):Callee P w K mg base 4 "is_in_parts" nL (spM K cN):=
 T.v117.okG (N:=vB) (ps:=nL) (k:=3) (b:=eJ) BX (by sleep 991) fun f cdv A outer s H E hr=>
  (aP (aV (dC (aM (fun _=>rE T) hr.le (aA (aC 0) aE)) (dC (gF (qQ (fun _=>rfl) (fun _=>hr.units)) (bC uZ (tE (fun _=>T.v162)) (bN dE (aC 0) aF)) aF) (eO (gF (qQ (fun _=>rfl) (fun _=>hr.units)) (aM (fun _=>WC T) hr.le (aA (bN dE (aC 0) aF) (aA (bN dE (aC 0) aF) aE))) aF))))))
theorem JK(T:Txt K mg):Callee P w K mg base 5 "is_weight" rV (spM K eC):=
 T.v118.okG (N:=zT) (ps:=rV) (k:=4) (b:=iJ) IE (by sleep 991) fun f cdv A outer s H E hr=>
  (aP (aV (dC (aM (fun _=>CF T) hr.le (aA (aC 0) aE)) (eO (gF aAa (bN dE (aC 0) aF) (tE (fun _=>T.v161)))))))
theorem tM(T:Txt K mg):Callee P w K mg base 2 "is_place" vG (spM K eU):=
 T.v119.okG (N:=BZ) (ps:=vG) (k:=1) (b:=mH) KZ (by sleep 992) fun f cdv A outer s H E hr=>
  (aP (aV (dC (aM (fun _=>nB T) hr.le (aA (aC 1) aE)) (eO (LL aAa FI aF (aC 1) (aC 0))))))
theorem tO(T:Txt K mg):Callee P w K mg base 3 "are_unlike_places" gQ (spM K bT):=
 T.v120.okG (N:=kW) (ps:=gQ) (k:=2) (b:=cU) tJ (by sleep 993) fun f cdv A outer s H E hr=>
  (aP (aV (dC (aM (fun _=>tM T) hr.le (aA (aC 0) (aA (aC 1) aE))) (dC (aM (fun _=>tM T) hr.le (aA (aC 0) (aA (aC 2) aE))) (eO (gF (wF (fun _=>rfl) (fun _=>hr.units)) (aC 1) (aC 2)))))))
theorem rZ(T:Txt K mg):Callee P w K mg base 4 "is_between_places" gT (spM K bA):=
 T.v121.okG (N:=kY) (ps:=gT) (k:=3) (b:=cT) sO (by sleep 992) fun f cdv A outer s H E hr=>
  (aP (aV (dC (aM (fun _=>pO T) hr.le (aA (aC 1) (aA aF aE))) (dC (aM (fun _=>tO T) hr.le (aA (aC 0) (aA (bN dE (aC 1) aF) (aA (bN dE (aC 1) aF) aE)))) (eO (gF FI (bN dE (aC 1) aF) (bN dE (aC 1) aF)))))))
theorem WX(T:Txt K mg):Callee P w K mg base 6 "is_tie" ES (spM K jD):=
 T.v122.okG (N:=LF) (ps:=ES) (k:=5) (b:=oR) XB (by sleep 992) fun f cdv A outer s H E hr=>
  (aP (aV (dC (aM (fun _=>rZ T) hr.le (aA (aC 0) (aA (aC 1) aE))) (eO (aM (fun _=>JK T) hr.le (aA (bN dE (aC 1) aF) aE))))))
theorem HX(T:Txt K mg):nD P w K mg base 7 "kept_ties" tL (spX K eS):=
 T.v123.okX (N:=rY) (ps:=tL) (k:=6) (b:=mX) sc_kept_ties (by sleep 992) fun f cdv A outer s H E hr=>
  (fH (yE (fY (eM (aM (fun _=>xY T) hr.le (aA (aC 1) aE))))
   (lF (qI (fun i=>uX i) (fun _=>mB T) (fun _=>rfl) (fun _=>rfl) (fun _=>T.v145) T.v146.c.be hr.le (aA aF aE)))
   (qL bV))
   (fH (JJ (bH 2 (fun _=>sc_kept_ties.nd) aBe))
   (fH (YH (fun i=>uX i) (fun _=>rfl) (fun _=>rfl) (fun _=>T.hB.of "enumerate") (aA (aC 1) aE) (cO (bE 3 (fun _=>sc_kept_ties.nd)) (cO (bE 4 (fun _=>sc_kept_ties.nd)) mW))
    (fH (yE (AK (mO (fY (eM (aM (fun _=>WX T) hr.le (aA (aC 0) (aA (aC 4) aE))))) (nN (aIy (fun _=>hr.u1) (QM (aA (bN dE (aC 4) aF) (aA (bN dE (aC 4) aF) aE))) (aC 2)))))
    (lF (qI (fun i=>uX i) (fun _=>mB T) (fun _=>rfl) (fun _=>rfl) (fun _=>T.v145) T.v146.c.be hr.le (aA (aC 3) aE)))
    (qL bV))
   (qL (aP (aDc (fun _=>hr.u1) (aC 2) (QM (aA (bN dE (aC 4) aF) (aA (bN dE (aC 4) aF) aE))) (fF (qE (fun _=>rfl)) (fun _=>T.hB.of "tuple") U8 (aA (bN dE (aC 4) aF) aE)))))))
   (qL (aP (aV (fF (qE (fun _=>rfl)) (fun _=>T.hB.of "tuple") U8 (aA (BY (N':=(["i","j","weight"]:List Str)) (cap:=[none,none,none]) (fun _=>rfl) (fun _=>fB (sc0:=aH lJ) (N:=rY) rfl rfl (by decide +kernel)) (iZ (fun _=>rfl) (aCo (fun _=>rfl) (fun _=>hr.units2) (fun _=>rfl) (fun _=>T.hB.of "sorted") (aC 2))) (wC (fun _=>rfl) (fun _=>rfl) (cO (wC (fun _=>rfl) (fun _=>rfl) (cO (bE 0 (fun _=>(show(["i","j","weight"]:List Str).Nodup by decide +kernel))) (cO (bE 1 (fun _=>(show(["i","j","weight"]:List Str).Nodup by decide +kernel))) mW))) (cO (bE 2 (fun _=>(show(["i","j","weight"]:List Str).Nodup by decide +kernel))) mW))) (CQ (bM OK (bN dE (aC 2) aF) aF)) (aZ (aA (aC 0) (aA (aC 1) (aA (aC 2) aE))))) aE))))))))
theorem iM(T:Txt K mg):xB P w K mg base 8 "Web" rG (spX K cH):=
 T.v160.okR (N:=sE) (ps:=rG) (k:=7) (b:=mT) T.v104 T.v105 T.v147 KD (by sleep 993) fun f cdv A outer s H E hr=>
  (fH (yE (AK (mO (fY (eM (aM (fun _=>nB T) hr.le (aA (aC 1) aE)))) (mO (bM FI (aC 1) aF) (nN (bM OK (aC 1) (tE (fun _=>T.v163)))))))
   (lF (BH (fun i=>uX i) (fun _=>rfl) (fun _=>rfl) (fun _=>T.v151) T.v41))
   (qL bV))
   (fH (JJ (aBN (nm:="Web") (fun _=>rfl) T.v148 T.v29 (aC 0) (aC 1)))
   (fH (aDa (nm:="Web") (fun _=>rfl) T.v148 T.v39 (aC 0) (JW (fun i=>uX i) (fun _=>HX T) hr.le (JL (aA (aC 1) (aA (aC 2) aE)))))
   (qL (aP (aBN (nm:="Web") (fun _=>rfl) T.v148 T.v98 (aC 0) (aHO (N':=(["i","j","weight"]:List Str)) (cap:=[none,none,none]) (fun _=>hr.u0) (fun _=>rfl) (fun _=>fB (sc0:=aH gL) (N:=sE) rfl rfl (by decide +kernel)) (iZ (fun _=>rfl) (eI (nm:="Web") (fun _=>rfl) T.v148 T.v39 (aC 0))) (wC (fun _=>rfl) (fun _=>rfl) (cO (bE 0 (fun _=>(show(["i","j","weight"]:List Str).Nodup by decide +kernel))) (cO (bE 1 (fun _=>(show(["i","j","weight"]:List Str).Nodup by decide +kernel))) (cO (bE 2 (fun _=>(show(["i","j","weight"]:List Str).Nodup by decide +kernel))) mW)))) nX (QM (aA (aC 0) (aA (aC 1) aE))) (aC 2))))))))
theorem wV(T:Txt K mg):Callee P w K mg base 4 "_law_ends" rL (spM K jZ):=
 T.v124.okG (N:=zI) (ps:=rL) (k:=3) (b:=sJ) sc__law_ends (by sleep 992) fun f cdv A outer s H E hr=>
  (aN (bH 2 (fun _=>sc__law_ends.nd) (fP aE))
   (aN (vK (fun _=>J0) (fun _=>rfl) (tR (fun _=>T.hB.of "range") (aA (aC 1) aE)) (bE 3 (fun _=>sc__law_ends.nd))
    (aP (dX (bM OK (aM (fun _=>bD T) hr.le (aA (aC 0) (aA aF aE))) aF)
    (aN (bH 4 (fun _=>sc__law_ends.nd) (aM (fun _=>bD T) hr.le (aA (aC 0) (aA (bC gX (bW vC (fun _=>T.hB.of "len") Z2 (aA (aC 2) aE)) aF) aE))))
   (aP (bH 2 (fun _=>sc__law_ends.nd) (bC gX (bC gX (EH (fun _=>rfl) (aC 2) pN (pY (aC 4))) (fP (aA (aZ (aA (aC 3) (aA (aM (fun _=>sZ T) hr.le (aA (aC 0) aE)) aE))) aE))) (EH (fun _=>rfl) (aC 2) (pY (aC 4)) pN)))))
    bV)))
   (aP (aV (aC 2)))))
theorem sU(T:Txt K mg):Callee P w K mg base 1 "_law_due" vI (spM K eT):=
 T.v125.okG (N:=vV) (ps:=vI) (k:=0) (b:=vT) LH (by sleep 991) fun f cdv A outer s H E hr=>
  (aP (aV (fF (qE (fun _=>rfl)) (fun _=>T.hB.of "tuple") U8 (aA (bW (aCS (fun _=>rfl) (fun _=>hr.units2)) (fun _=>T.hB.of "sorted") boot_sorted (aA (BY (N':=(["_law_one"]:List Str)) (cap:=[none]) (fun _=>rfl) (fun _=>fB (sc0:=aH nE) (N:=vV) rfl rfl (by decide +kernel)) (iZ (fun _=>rfl) (aC 0)) (bE 0 (fun _=>(show(["_law_one"]:List Str).Nodup by decide +kernel))) (CQ (bM (wF (fun _=>rfl) (fun _=>hr.units)) (bN dE (aC 0) aF) (aZ (aA aF (aA aF aE))))) (aC 0)) aE)) aE))))
theorem uU(T:Txt K mg):∀n:Nat,Callee P w K mg base (n+1) "_law_lists" lB (spM K (bI n))
 |0=>(T.v126.okNone (N:=lN) (ps:=lB) (k:=0) uP (by intro _ _ _ _ _ _ _ hl;apply ar1 hl;intros;rfl)).mono (by decide)
 |n+1=>(T.v126.okG (N:=lN) (ps:=lB) (k:=n+1) (b:=gI (bI n)) uP (by sleep 991) fun f cdv A outer s H E hr=>
  (aN (dX (eM (AS (T:="tuple") (fun _=>rfl) (by decide) (aC 0) (fun _=>aY) (fun _=>T.hB.of "isinstance") (fun _=>T.hB.of "tuple") U8))
   (aP (aV (aGM (N':=(["_law_one"]:List Str)) (cap:=[none]) (fun _=>rfl) (fun _=>fB (sc0:=aH jR) (N:=lN) rfl rfl (by decide +kernel)) (iZ (fun _=>rfl) (aC 0)) (bE 0 (fun _=>(show(["_law_one"]:List Str).Nodup by decide +kernel))) nX (aM (fun _=>uU T n) (fun _=>hr.mono (by omega)) (aA (aC 0) aE)))))
   bV)
   (aP (aV (aC 0))))).mono (by omega)
theorem yD(T:Txt K mg):xU P w K mg base 1 "TooMany" kU (spM K hW):=
 T.v159.okIX (N:=qV) (ps:=kU) (k:=0) (b:=kP) T.v92 T.v91 yH (by sleep 992) fun f cdv A outer s H E hr=>
  (aP (SV (nm:="TooMany") (fun _=>rfl) T.v157 (aC 0) (aC 1)))
theorem PP(T:Txt K mg):Callee P w K mg base 3 "new_tie" xX (spM K dZ):=
 T.v127.okG (N:=GZ) (ps:=xX) (k:=2) (b:=lP) OU (by sleep 992) fun f cdv A outer s H E hr=>
  (aP (aV (aAX (eM (aM (fun _=>pO T) hr.le (aA (aC 1) (aA aF aE)))) (aEB (aA (bN dE (aC 1) aF) (aA (aC 0) (aA (bN dE (aC 1) aF) aE)))) yK)))
theorem jV(T:Txt K mg):nD P w K mg base 10 "with_place" qA (spX K bF):=
 T.v128.okX (N:=qG) (ps:=qA) (k:=9) (b:=gM) FC (by sleep 992) fun f cdv A outer s H E hr=>
  (fH (yE (bM (qQ (fun _=>rfl) (fun _=>hr.units)) (eI (nm:="Web") (fun _=>rfl) T.v148 T.v29 (aC 0)) (tE (fun _=>T.v163)))
   (lF (qI (fun i=>uX i) (fun _=>yD T) (fun _=>rfl) (fun _=>rfl) (fun _=>T.v149) T.v150.c.be hr.le (aA (tE (fun _=>T.v163)) aE)))
   (qL bV))
   (fH (yE (fY (eM (aM (fun _=>xY T) hr.le (aA (aC 1) aE))))
    (lF (qI (fun i=>uX i) (fun _=>mB T) (fun _=>rfl) (fun _=>rfl) (fun _=>T.v145) T.v146.c.be hr.le (aA aF aE)))
    (qL bV))
   (lF (TX (TK (fun i=>uX i) (fun _=>iM T) (fun _=>rfl) hr.le (aA (bC gX (eI (nm:="Web") (fun _=>rfl) T.v148 T.v29 (aC 0)) aF) (aA (bC (aFI (fun _=>rfl)) (aIt (N':=(["web","row"]:List Str)) (cap:=[some 0,none]) (fun _=>rfl) (fun _=>rfl) (fun _=>fB (sc0:=aH jU) (N:=qG) rfl rfl (by decide +kernel)) (aC 1) (bE 1 (fun _=>(show(["web","row"]:List Str).Nodup by decide +kernel))) nX (aM (fun _=>PP T) hr.le (aA (eI (nm:="Web") (fun _=>rfl) T.v148 T.v29 (aC 0)) (aA (aC 1) aE)))) (fF (aGq (fun _=>rfl)) (fun _=>T.hB.of "list") boot_list (aA (eI (nm:="Web") (fun _=>rfl) T.v148 T.v39 (aC 0)) aE))) aE)))))))
theorem uR(T:Txt K mg):∀n:Nat,Callee P w K mg base (n+1) "_law_spoil" lA (spM K (cR n))
 |0=>(T.v129.okNone (N:=qM) (ps:=lA) (k:=0) sc__law_spoil (by intro _ _ _ _ _ _ _ hl;apply ar1 hl;intros;rfl)).mono (by decide)
 |n+1=>(T.v129.okG (N:=qM) (ps:=lA) (k:=n+1) (b:=lH (cR n)) sc__law_spoil (by sleep 991) fun f cdv A outer s H E hr=>
  (aN (aEi (fun _=>J0) (fun _=>rfl) (fun _=>rfl) (fF (aDP (fun _=>rfl)) (fun _=>T.hB.of "list") boot_list (aA (aC 0) aE)) (bE 1 (fun _=>sc__law_spoil.nd))
   (aP (dX (eM (AS (T:="list") (fun _=>rfl) (by decide) (aC 1) (fun _=>aY) (fun _=>T.hB.of "isinstance") (fun _=>T.hB.of "list") boot_list))
   (aP (xF (aM (fun _=>uR T n) (fun _=>hr.mono (by omega)) (aA (aC 1) aE))))
   bV)))
   (aP (xF (yR (fun _=>rfl) (aC 0) (aA aF aE)))))).mono (by omega)
theorem IU(T:Txt K mg):Callee P w K mg base 11 "_law_come" sG (spM K nI):=
 T.v130.okG (N:=sH) (ps:=sG) (k:=10) (b:=sD) sc__law_come (by sleep 993) fun f cdv A outer s H E hr=>
  (aN (bH 3 (fun _=>sc__law_come.nd) (bW (lC (fun _=>rfl) (fun _=>hr.gd) (fun _=>hr.u200)) (fun _=>T.hB.of "repr") Z4 (aA (aZ (aA (bC gX (eI (nm:="Web") (fun _=>rfl) T.v148 T.v29 (aC 0)) aF) (aA (aM (fun _=>sU T) hr.le (aA (bC gX (aC 1) (BY (N':=(["_law_web","_law_place","_law_weight_here"]:List Str)) (cap:=[some 0,none,none]) (fun _=>rfl) (fun _=>fB (sc0:=aH lL) (N:=sH) rfl rfl (by decide +kernel)) (iZ (fun _=>rfl) (aC 2)) (wC (fun _=>rfl) (fun _=>rfl) (cO (bE 1 (fun _=>(show(["_law_web","_law_place","_law_weight_here"]:List Str).Nodup by decide +kernel))) (cO (bE 2 (fun _=>(show(["_law_web","_law_place","_law_weight_here"]:List Str).Nodup by decide +kernel))) mW))) nX (aZ (aA (aC 1) (aA (eI (nm:="Web") (fun _=>rfl) T.v148 T.v29 (aC 0)) (aA (aC 2) aE)))))) aE)) aE))) aE)))
   (aN (bH 4 (fun _=>sc__law_come.nd) (aM (fun _=>uU T 4) hr.le (aA (fF (qE (fun _=>rfl)) (fun _=>T.hB.of "tuple") U8 (aA (aC 2) aE)) aE)))
   (aN (bH 5 (fun _=>sc__law_come.nd) (bW (lC (fun _=>rfl) (fun _=>hr.gd) (fun _=>hr.u200)) (fun _=>T.hB.of "repr") Z4 (aA (aC 4) aE)))
   (aN (bH 6 (fun _=>sc__law_come.nd) (uB (fun _=>jV T) hr.le (aA (aC 0) (aA (fF (qE (fun _=>rfl)) (fun _=>T.hB.of "tuple") U8 (aA (aC 2) aE)) aE))))
   (aN (bH 7 (fun _=>sc__law_come.nd) (uB (fun _=>jV T) hr.le (aA (aC 0) (aA (aC 4) aE))))
   (aN (dX (bM (wF (fun _=>rfl) (fun _=>hr.units)) (bW (lC (fun _=>rfl) (fun _=>hr.gd) (fun _=>hr.u200)) (fun _=>T.hB.of "repr") Z4 (aA (aC 4) aE)) (aC 5))
    (aP (aV eG))
    bV)
   (aN (xF (aM (fun _=>uR T 4) hr.le (aA (aC 4) aE)))
   (aN (dX (AK (mO (bM (wF (fun _=>rfl) (fun _=>hr.units)) (bW (lC (fun _=>rfl) (fun _=>hr.gd) (fun _=>hr.u200)) (fun _=>T.hB.of "repr") Z4 (aA (aZ (aA (eI (nm:="Web") (fun _=>rfl) T.v148 T.v29 (aC 6)) (aA (eI (nm:="Web") (fun _=>rfl) T.v148 T.v39 (aC 6)) aE))) aE)) (aC 3)) (nN (bM (wF (fun _=>rfl) (fun _=>hr.units)) (bW (lC (fun _=>rfl) (fun _=>hr.gd) (fun _=>hr.u200)) (fun _=>T.hB.of "repr") Z4 (aA (aZ (aA (eI (nm:="Web") (fun _=>rfl) T.v148 T.v29 (aC 7)) (aA (eI (nm:="Web") (fun _=>rfl) T.v148 T.v39 (aC 7)) aE))) aE)) (aC 3)))))
    (aP (aV eG))
    bV)
   (aP (aV (gF (qQ (fun _=>rfl) (fun _=>hr.units)) (bW (lC (fun _=>rfl) (fun _=>hr.gd) (fun _=>hr.u200)) (fun _=>T.hB.of "repr") Z4 (aA (eI (nm:="Web") (fun _=>rfl) T.v148 T.v39 (aC 0)) aE)) (bW (lC (fun _=>rfl) (fun _=>hr.gd) (fun _=>hr.u200)) (fun _=>T.hB.of "repr") Z4 (aA (aM (fun _=>sU T) hr.le (aA (aC 1) aE)) aE)))))))))))))
theorem vD(T:Txt K mg):Callee P w K mg base 1 "renumbered" pU (spM K gN):=
 T.v131.okG (N:=xO) (ps:=pU) (k:=0) (b:=lD) FJ (by sleep 992) fun f cdv A outer s H E hr=>
  (aP (aV (aAX (bM OK (aC 0) (aC 1)) (bC uI (aC 0) aF) (aC 0))))
theorem oU(T:Txt K mg):nD P w K mg base 10 "without_place" kS (spX K cG):=
 T.v132.okX (N:=iA) (ps:=kS) (k:=9) (b:=fG) sc_without_place (by sleep 992) fun f cdv A outer s H E hr=>
  (fH (yE (AK (mO (fY (eM (aM (fun _=>tM T) hr.le (aA (eI (nm:="Web") (fun _=>rfl) T.v148 T.v29 (aC 0)) (aA (aC 1) aE))))) (nN (bM (qQ (fun _=>rfl) (fun _=>hr.units)) (eI (nm:="Web") (fun _=>rfl) T.v148 T.v29 (aC 0)) aF))))
   (lF (BH (fun i=>uX i) (fun _=>rfl) (fun _=>rfl) (fun _=>T.v151) T.v41))
   (qL bV))
   (fH (JJ (sX 2 (fun _=>sc_without_place.nd) (N':=(["place","row"]:List Str)) (cap:=[some 1,none]) (fun _=>rfl) (fun _=>fB (sc0:=aH eQ) (N:=iA) rfl rfl (by decide +kernel)) (iZ (fun _=>rfl) (eI (nm:="Web") (fun _=>rfl) T.v148 T.v39 (aC 0))) (bE 1 (fun _=>(show(["place","row"]:List Str).Nodup by decide +kernel))) (CQ (bM (aEp (fun _=>rfl) (fun _=>hr.units1)) (aC 0) (aZ (aA (bN dE (aC 1) aF) (aA (bN dE (aC 1) aF) aE))))) (aC 1)))
   (fH (JJ (sX 3 (fun _=>sc_without_place.nd) (N':=(["place","i","j","weight"]:List Str)) (cap:=[some 1,none,none,none]) (fun _=>rfl) (fun _=>fB (sc0:=aH eQ) (N:=iA) rfl rfl (by decide +kernel)) (iZ (fun _=>rfl) (aC 2)) (wC (fun _=>rfl) (fun _=>rfl) (cO (bE 1 (fun _=>(show(["place","i","j","weight"]:List Str).Nodup by decide +kernel))) (cO (bE 2 (fun _=>(show(["place","i","j","weight"]:List Str).Nodup by decide +kernel))) (cO (bE 3 (fun _=>(show(["place","i","j","weight"]:List Str).Nodup by decide +kernel))) mW)))) nX (aZ (aA (aM (fun _=>vD T) hr.le (aA (aC 1) (aA (aC 0) aE))) (aA (aM (fun _=>vD T) hr.le (aA (aC 2) (aA (aC 0) aE))) (aA (aC 3) aE))))))
   (lF (TX (TK (fun i=>uX i) (fun _=>iM T) (fun _=>rfl) hr.le (aA (bC uI (eI (nm:="Web") (fun _=>rfl) T.v148 T.v29 (aC 0)) aF) (aA (aC 3) aE))))))))
theorem KG(T:Txt K mg):Callee P w K mg base 11 "_law_gone" sI (spM K kM):=
 T.v133.okG (N:=mU) (ps:=sI) (k:=10) (b:=rM) sc__law_gone (by sleep 993) fun f cdv A outer s H E hr=>
  (aN (sX 3 (fun _=>sc__law_gone.nd) (N':=(["_law_place","_law_one"]:List Str)) (cap:=[some 2,none]) (fun _=>rfl) (fun _=>fB (sc0:=aH iR) (N:=mU) rfl rfl (by decide +kernel)) (iZ (fun _=>rfl) (aC 1)) (bE 1 (fun _=>(show(["_law_place","_law_one"]:List Str).Nodup by decide +kernel))) (CQ (AK (aBm (bM (wF (fun _=>rfl) (fun _=>hr.units)) (bN dE (aC 1) aF) (aC 0)) (SB (bM (wF (fun _=>rfl) (fun _=>hr.units)) (bN dE (aC 1) aF) (aC 0)))))) (aC 1))
   (aN (sX 3 (fun _=>sc__law_gone.nd) (N':=(["_law_place","_law_i","_law_j","_law_weight_here"]:List Str)) (cap:=[some 2,none,none,none]) (fun _=>rfl) (fun _=>fB (sc0:=aH iR) (N:=mU) rfl rfl (by decide +kernel)) (iZ (fun _=>rfl) (aC 3)) (wC (fun _=>rfl) (fun _=>rfl) (cO (bE 1 (fun _=>(show(["_law_place","_law_i","_law_j","_law_weight_here"]:List Str).Nodup by decide +kernel))) (cO (bE 2 (fun _=>(show(["_law_place","_law_i","_law_j","_law_weight_here"]:List Str).Nodup by decide +kernel))) (cO (bE 3 (fun _=>(show(["_law_place","_law_i","_law_j","_law_weight_here"]:List Str).Nodup by decide +kernel))) mW)))) nX (aZ (aA (bC uI (aC 1) (fF XR (fun _=>T.hB.of "int") boot_int (aA (gF OK (aC 1) (aC 0)) aE))) (aA (bC uI (aC 2) (fF XR (fun _=>T.hB.of "int") boot_int (aA (gF OK (aC 2) (aC 0)) aE))) (aA (aC 3) aE)))))
   (aN (bH 4 (fun _=>sc__law_gone.nd) (uB (fun _=>oU T) hr.le (aA (aC 0) (aA (aC 2) aE))))
   (aP (aV (gF (qQ (fun _=>rfl) (fun _=>hr.units)) (bW (lC (fun _=>rfl) (fun _=>hr.gd) (fun _=>hr.u200)) (fun _=>T.hB.of "repr") Z4 (aA (aZ (aA (eI (nm:="Web") (fun _=>rfl) T.v148 T.v29 (aC 4)) (aA (eI (nm:="Web") (fun _=>rfl) T.v148 T.v39 (aC 4)) aE))) aE)) (bW (lC (fun _=>rfl) (fun _=>hr.gd) (fun _=>hr.u200)) (fun _=>T.hB.of "repr") Z4 (aA (aZ (aA (bC uI (eI (nm:="Web") (fun _=>rfl) T.v148 T.v29 (aC 0)) aF) (aA (aM (fun _=>sU T) hr.le (aA (aC 3) aE)) aE))) aE))))))))
theorem rT(T:Txt K mg):∀n:Nat,Callee P w K mg base (n+2) "_law_any" pV (spM K (eZ n))
 |0=>(T.v134.okNone (N:=pX) (ps:=pV) (k:=1) sc__law_any (by intro _ _ _ _ _ _ _ hl;apply ar3 hl;intros;rfl)).mono (by decide)
 |n+1=>(T.v134.okG (N:=pX) (ps:=pV) (k:=n+2) (b:=dG (eZ n)) sc__law_any (by sleep 993) fun f cdv A outer s H E hr=>
  (aN (bH 3 (fun _=>sc__law_any.nd) (aM (fun _=>bD T) (fun _=>hr.mono (by omega)) (aA (aC 0) (aA (bC uI aF (bC LD aF (fF XR (fun _=>T.hB.of "int") boot_int (aA (gF (qQ (fun _=>rfl) (fun _=>hr.units)) (aC 2) aF) aE)))) aE))))
   (aN (dX (bM (qQ (fun _=>rfl) (fun _=>hr.units)) (aC 3) aF)
    (aP (aV (aAX (bM (wF (fun _=>rfl) (fun _=>hr.units)) (aC 1) (fP aE)) (bC uI (bC uZ (bN dE (aC 1) aF) (bC zL aF aF)) (bC zL aF aF)) (aAu aCq aF))))
    bV)
   (aN (dX (bM (qQ (fun _=>rfl) (fun _=>hr.units)) (aC 3) aF)
    (aP (aV (bN dE (fP (aA aF (aA aF (aA aF (aA aF (aA (aAu aCq aF) (aA aF (aA aF aE)))))))) (aM (fun _=>bD T) (fun _=>hr.mono (by omega)) (aA (aC 0) (aA aF aE))))))
    bV)
   (aN (dX (bM (qQ (fun _=>rfl) (fun _=>hr.units)) (aC 3) aF)
    (aP (aV (bN dE (fP (aA eG (aA eG (aA yK aE)))) (aM (fun _=>bD T) (fun _=>hr.mono (by omega)) (aA (aC 0) (aA aF aE))))))
    bV)
   (aN (dX (bM FI (aC 3) aF)
    (aP (aV (bN dE (fP (aA eN (aA eN (aA eN (aA eN (aA eN (aA eN aE))))))) (aM (fun _=>bD T) (fun _=>hr.mono (by omega)) (aA (aC 0) (aA aF aE))))))
    bV)
   (aN (sX 4 (fun _=>sc__law_any.nd) (N':=(["_law_stream_here","_law_script","_law_depth","_law_k"]:List Str)) (cap:=[some 0,some 1,some 2,none]) (fun _=>rfl) (fun _=>fB (sc0:=aH mK) (N:=pX) rfl rfl (by decide +kernel)) (tR (fun _=>T.hB.of "range") (aA (aM (fun _=>bD T) (fun _=>hr.mono (by omega)) (aA (aC 0) (aA aF aE))) aE)) (bE 3 (fun _=>(show(["_law_stream_here","_law_script","_law_depth","_law_k"]:List Str).Nodup by decide +kernel))) nX (aM (fun _=>rT T n) (fun _=>hr.mono (by omega)) (aA (aC 0) (aA (aC 1) (aA (bC uI (aC 2) aF) aE)))))
   (aN (dX (bM (qQ (fun _=>rfl) (fun _=>hr.units)) (aC 3) aF)
    (aP (aV (fF (qE (fun _=>rfl)) (fun _=>T.hB.of "tuple") U8 (aA (aC 4) aE))))
    bV)
   (aN (dX (bM (qQ (fun _=>rfl) (fun _=>hr.units)) (aC 3) aF)
    (aP (aV (aC 4)))
    bV)
   (aP (aV (aDX (RU aF (aC 4) (RU eN yK aHk)))))))))))))).mono (by omega)
theorem NV(T:Txt K mg):Callee P w K mg base 7 "_law_odd" vM (spM K jQ):=
 T.v135.okG (N:=DT) (ps:=vM) (k:=6) (b:=vP) sc__law_odd (by sleep 994) fun f cdv A outer s H E hr=>
  (aN (bH 4 (fun _=>sc__law_odd.nd) (aM (fun _=>bD T) hr.le (aA (aC 0) (aA (bC gX (bW vC (fun _=>T.hB.of "len") Z2 (aA (aC 3) aE)) aF) aE))))
   (aN (bH 5 (fun _=>sc__law_odd.nd) (bC (aGs (fun _=>rfl)) (fP (aA (aZ (aA (aC 2) (aA (aZ (aA aF (aA aF aE))) aE))) (aA (aZ (aA aF (aA (aZ (aA aF (aA aF aE))) aE))) (aA (aZ (aA eG (aA (aZ (aA aF (aA aF aE))) aE))) (aA (aZ (aA aF (aA aF aE))) (aA (aZ (aA aF aE)) (aA (aZ (aA aF (aA (aZ (aA aF (aA aF aE))) (aA aF aE)))) (aA aF (aA yK aE))))))))) (EH (fun _=>rfl) (aC 3) pN (pY aF))))
   (aN (aFR 5 (xF (yR (fun _=>rfl) (aC 5) (aA (aM (fun _=>rT T 4) hr.le (aA (aC 0) (aA (aC 1) (aA aF aE)))) aE))))
   (aN (bH 6 (fun _=>sc__law_odd.nd) (bC gX (bC gX (EH (fun _=>rfl) (aC 3) pN (pY (aC 4))) (fP (aA (aM (fun _=>pR T) hr.le (aA (aC 0) (aA (aC 5) aE))) aE))) (EH (fun _=>rfl) (aC 3) (pY (aC 4)) pN)))
   (aP (aV (fP (aA (aC 6) (aA (bC gX (fF (qE (fun _=>rfl)) (fun _=>T.hB.of "tuple") U8 (aA (aC 6) aE)) (aZ (aA (aM (fun _=>pR T) hr.le (aA (aC 0) (aA (aC 5) aE))) aE))) (aA (aM (fun _=>rT T 4) hr.le (aA (aC 0) (aA (aC 1) (aA aF aE)))) aE))))))))))
theorem ok__law_alone(T:Txt K mg):Callee P w K mg base 1 "_law_alone" iP (spM K eX):=
 T.v136.okG (N:=qB) (ps:=iP) (k:=0) (b:=lK) sc__law_alone (by sleep 991) fun f cdv A outer s H E hr=>
  (aN (bH 1 (fun _=>sc__law_alone.nd) (dC (iS (tab:=iK) (nn:=some false) (c:=(.ref (aS K "CutError"))) (fun _=>rfl) (.own _) (qD (fun _=>T.v153)) (iX (iY T) T.v53 rfl) (jB T.v54) (aC 0) (fun _=>aY) (fun _=>T.hB.of "isinstance")) (eO (iS (tab:=fI) (nn:=some false) (c:=(.type "ValueError")) (fun _=>rfl) (.ty _) (aEY (fun _=>T.hB.of "ValueError") qZ) (iX (iY T) T.v50 rfl) (jB T.v51) (aC 0) (fun _=>aY) (fun _=>T.hB.of "isinstance")))))
   (aP (aV (dC (aC 1) (dC (nJ (iS (tab:=lO) (nn:=some false) (c:=(.ref (aS K "NoLine"))) (fun _=>rfl) (.own _) (qD (fun _=>T.v155)) (iX (iY T) T.v59 rfl) (jB T.v60) (aC 0) (fun _=>aY) (fun _=>T.hB.of "isinstance"))) (eO (nJ (iS (tab:=iG) (nn:=some false) (c:=(.ref (aS K "NoWeight"))) (fun _=>rfl) (.own _) (qD (fun _=>T.v154)) (iX (iY T) T.v56 rfl) (jB T.v57) (aC 0) (fun _=>aY) (fun _=>T.hB.of "isinstance")))))))))
theorem lY(T:Txt K mg):Callee P w K mg base 1 "_law_alone" iP (spM K eX) false:=
 T.v136.okG (q:=false) (N:=qB) (ps:=iP) (k:=0) (b:=lK) sc__law_alone (by sleep 991) fun f cdv A outer s H E hr=>
  (aN (bH 1 (fun _=>sc__law_alone.nd) (dC (iS (tab:=iK) (nn:=some false) (c:=(.ref (aS K "CutError"))) (fun _=>rfl) (.own _) (qD (fun _=>T.v153)) (iX (iY T) T.v53 rfl) (jB T.v54) (aC 0) (fun _=>aY) (fun _=>T.hB.of "isinstance")) (eO (iS (tab:=fI) (nn:=some false) (c:=(.type "ValueError")) (fun _=>rfl) (.ty _) (aEY (fun _=>T.hB.of "ValueError") qZ) (iX (iY T) T.v50 rfl) (jB T.v51) (aC 0) (fun _=>aY) (fun _=>T.hB.of "isinstance")))))
   (aP (aV (dC (aC 1) (dC (nJ (iS (tab:=lO) (nn:=some false) (c:=(.ref (aS K "NoLine"))) (fun _=>rfl) (.own _) (qD (fun _=>T.v155)) (iX (iY T) T.v59 rfl) (jB T.v60) (aC 0) (fun _=>aY) (fun _=>T.hB.of "isinstance"))) (eO (nJ (iS (tab:=iG) (nn:=some false) (c:=(.ref (aS K "NoWeight"))) (fun _=>rfl) (.own _) (qD (fun _=>T.v154)) (iX (iY T) T.v56 rfl) (jB T.v57) (aC 0) (fun _=>aY) (fun _=>T.hB.of "isinstance")))))))))
theorem jW(T:Txt K mg):Callee P w K mg base 11 "_law_found" pL (spM K bJ):=
 T.v137.okG (N:=xD) (ps:=pL) (k:=10) (b:=gK) sc__law_found (by sleep 993) fun f cdv A outer s H E hr=>
  (aN (bH 3 (fun _=>sc__law_found.nd) yK)
   (aN (aIc (fun _=>⟨rfl,rfl,rfl⟩) (fun _=>rfl) (lF (aDK 3 (fun _=>sc__law_found.nd) (aIe (max_cons (aIJ eN) (max_cons (aIN (aCg (fun _=>rfl) (aC 2)) (aBH (nm:="Web") (fun _=>rfl) T.v148 T.v29 (JW (fun i=>aFu (fun _=>⟨rfl,rfl,rfl⟩) i) (fun _=>oU T) hr.le (JL (aA (aC 0) (aA (aC 1) aE))))) (aBH (nm:="Web") (fun _=>rfl) T.v148 T.v29 (JW (fun i=>aFu (fun _=>⟨rfl,rfl,rfl⟩) i) (fun _=>jV T) hr.le (JL (aA (aC 0) (aA (aC 1) aE)))))) (JL (aA eG aE))))))) (HW (tab:=[("NoTie",false),("TooMany",true),("NoPlace",false)]) (n:=(some 4)) (.ref (aS K "TooMany")) (fun _=>⟨rfl,rfl,rfl⟩) (fun _=>.inl T.v149) (fun _=>⟨sc__law_found.nd,rfl,rfl⟩) (gJ T.v78 (gJ T.v77 (gJ T.v76 EJ))) (aP (bH 3 (fun _=>sc__law_found.nd) (aZ (aA eN (aA (TQ (nms:=["TooMany"]) (fun _=>rfl) (HK T.v150.c T.v157 NW) (aC 4)) (aA (dC (aM (fun _=>lY T) (fun _=>hr.mark (by decide)) (aA (aC 4) aE)) (eO (nJ (iS (tab:=jY) (nn:=some false) (c:=(.ref (aS K "NoTie"))) (fun _=>rfl) (.own _) (qD (fun _=>T.v145)) (iX (iY T) T.v64 rfl) (jB T.v65) (aC 4) (fun _=>aY) (fun _=>T.hB.of "isinstance"))))) aE))))))
   (HW (tab:=[("NoTie",true),("TooMany",false),("NoPlace",false)]) (n:=(some 4)) (.ref (aS K "NoTie")) (fun _=>⟨rfl,rfl,rfl⟩) (fun _=>.inl T.v145) (fun _=>⟨sc__law_found.nd,rfl,rfl⟩) (gJ T.v68 (gJ T.v67 (gJ T.v66 EJ))) (aP (bH 3 (fun _=>sc__law_found.nd) (aZ (aA eN (aA (TQ (nms:=["NoTie"]) (fun _=>rfl) (HK T.v146.c T.v156 NW) (aC 4)) (aA (dC (aM (fun _=>lY T) (fun _=>hr.mark (by decide)) (aA (aC 4) aE)) (eO (nJ (iS (tab:=lR) (nn:=some false) (c:=(.ref (aS K "TooMany"))) (fun _=>rfl) (.own _) (qD (fun _=>T.v149)) (iX (iY T) T.v69 rfl) (jB T.v70) (aC 4) (fun _=>aY) (fun _=>T.hB.of "isinstance"))))) aE))))))
   (HW (tab:=[("NoTie",false),("TooMany",false),("NoPlace",true)]) (n:=(some 4)) (.ref (aS K "NoPlace")) (fun _=>⟨rfl,rfl,rfl⟩) (fun _=>.inl T.v151) (fun _=>⟨sc__law_found.nd,rfl,rfl⟩) (gJ T.v63 (gJ T.v62 (gJ T.v61 EJ))) (aP (bH 3 (fun _=>sc__law_found.nd) (aZ (aA eN (aA aF (aA (dC (aM (fun _=>lY T) (fun _=>hr.mark (by decide)) (aA (aC 4) aE)) (eO (nJ (iS (tab:=jY) (nn:=some false) (c:=(.ref (aS K "NoTie"))) (fun _=>rfl) (.own _) (qD (fun _=>T.v145)) (iX (iY T) T.v64 rfl) (jB T.v65) (aC 4) (fun _=>aY) (fun _=>T.hB.of "isinstance"))))) aE))))))
   aIk))))
   (aP (aV (aC 3)))))
theorem lT(T:Txt K mg):Callee P w K mg base 1 "_law_is_row" nM (spM K fO):=
 T.v138.okG (N:=uK) (ps:=nM) (k:=0) (b:=uM) DW (by sleep 991) fun f cdv A outer s H E hr=>
  (aP (aV (aJj (yJ (T:="list") (fun _=>rfl) (by decide) (aC 0) (fun _=>aY) (fun _=>T.hB.of "isinstance") (fun _=>T.hB.of "list") boot_list) (eO (yJ (T:="tuple") (fun _=>rfl) (by decide) (aC 0) (fun _=>aY) (fun _=>T.hB.of "isinstance") (fun _=>T.hB.of "tuple") U8)))))
theorem yL(T:Txt K mg):Callee P w K mg base 1 "_law_is_whole" kT (spM K iB):=
 T.v139.okG (N:=qW) (ps:=kT) (k:=0) (b:=kR) yX (by sleep 993) fun f cdv A outer s H E hr=>
  (aP (aV (dC (yJ (T:="int") (fun _=>rfl) (by decide) (aC 0) (fun _=>aY) (fun _=>T.hB.of "isinstance") (fun _=>T.hB.of "int") boot_int) (dC (nJ (yJ (T:="bool") (fun _=>rfl) (by decide) (aC 0) (fun _=>aY) (fun _=>T.hB.of "isinstance") (fun _=>T.hB.of "bool") boot_bool)) (eO (LL aAa aAa (aC 1) (aC 0) (aC 2)))))))
theorem xJ(T:Txt K mg):Callee P w K mg base 2 "_law_is_amount" jJ (spM K bS):=
 T.v140.okG (N:=jM) (ps:=jJ) (k:=1) (b:=cJ) wW (by sleep 991) fun f cdv A outer s H E hr=>
  (aN (dX (AK (mO (fY (eM (aM (fun _=>lT T) hr.le (aA (aC 0) aE)))) (nN (bM (wF (fun _=>rfl) (fun _=>hr.units)) (bW vC (fun _=>T.hB.of "len") Z2 (aA (aC 0) aE)) aF))))
   (aP (aV eG))
   bV)
   (aN (dX (AK (mO (fY (eM (bW (YV (fun _=>rfl) (fun _=>rfl)) (fun _=>T.hB.of "all") boot_all (aA (BY (N':=(["_law_one"]:List Str)) (cap:=[none]) (fun _=>rfl) (fun _=>fB (sc0:=aH fT) (N:=jM) rfl rfl (by decide +kernel)) (iZ (fun _=>rfl) (aC 0)) (bE 0 (fun _=>(show(["_law_one"]:List Str).Nodup by decide +kernel))) nX (dC (yJ (T:="int") (fun _=>rfl) (by decide) (aC 0) (fun _=>aY) (fun _=>T.hB.of "isinstance") (fun _=>T.hB.of "int") boot_int) (eO (nJ (yJ (T:="bool") (fun _=>rfl) (by decide) (aC 0) (fun _=>aY) (fun _=>T.hB.of "isinstance") (fun _=>T.hB.of "bool") boot_bool))))) aE)))) (mO (bM FI (bN dE (aC 0) aF) aF) (nN (bM FI (bN dE (aC 0) aF) aF)))))
    (aP (aV eG))
    bV)
   (aP (aV (gF (qQ (fun _=>rfl) (fun _=>hr.units)) (aM (fun _=>uW T) hr.le (aA (bN dE (aC 0) aF) (aA (bN dE (aC 0) aF) aE))) (aZ (aA (bN dE (aC 0) aF) (aA (bN dE (aC 0) aF) aE))))))))
theorem xE(T:Txt K mg):Callee P w K mg base 3 "_law_is_weight" jK (spM K cI):=
 T.v141.okG (N:=oY) (ps:=jK) (k:=2) (b:=dN) xV (by sleep 991) fun f cdv A outer s H E hr=>
  (aP (aV (dC (aM (fun _=>xJ T) hr.le (aA (aC 0) aE)) (dC (gF aAa (bN dE (aC 0) aF) (bC zL aF aF)) (eO (gF (qQ (fun _=>rfl) (fun _=>hr.units)) (bC uZ aF (bN dE (aC 0) aF)) aF))))))
theorem JB(T:Txt K mg):Callee P w K mg base 4 "_law_told" sS (spM K iI):=
 T.v142.okG (N:=zK) (ps:=sS) (k:=3) (b:=kF) sc__law_told (by sleep 992) fun f cdv A outer s H E hr=>
  (aN (dX (bM (qQ (fun _=>rfl) (fun _=>hr.units)) (aC 0) aF)
   (aP (aV (aZ (aA eN (aA aF (aA eG aE))))))
   bV)
   (aN (dX (fY (eM (aM (fun _=>lT T) hr.le (aA (aC 1) aE))))
    (aP (aV (aZ (aA eN (aA aF (aA eG aE))))))
    bV)
   (aN (bH 2 (fun _=>sc__law_told.nd) (QV aE))
   (aN (vK (fun _=>J0) (fun _=>rfl) (aEd (fun _=>rfl) (fun _=>T.hB.of "enumerate") (aA (aC 1) aE)) (wC (fun _=>rfl) (fun _=>rfl) (cO (bE 3 (fun _=>sc__law_told.nd)) (cO (bE 4 (fun _=>sc__law_told.nd)) mW)))
    (aN (dX (AK (mO (fY (eM (aM (fun _=>lT T) hr.le (aA (aC 4) aE)))) (mO (bM (wF (fun _=>rfl) (fun _=>hr.units)) (bW vC (fun _=>T.hB.of "len") Z2 (aA (aC 4) aE)) aF) (nN (fY (eM (aM (fun _=>yL T) hr.le (aA (bN dE (aC 4) aF) (aA aF (aA (bC uI (aC 0) aF) aE))))))))))
    (aP (aV (aZ (aA eN (aA (aC 3) (aA eG aE))))))
    bV)
   (aN (dX (AK (mO (fY (eM (aM (fun _=>xE T) hr.le (aA (bN dE (aC 4) aF) aE)))) (nN (bM (aJg (fun _=>rfl) (fun _=>hr.units1)) (bN dE (aC 4) aF) (aC 2)))))
    (aP (aV (aZ (aA eN (aA (aC 3) (aA eG aE))))))
    bV)
   (aP (xF (yR (fun _=>rfl) (aC 2) (aA (bN dE (aC 4) aF) aE)))))))
   (aP (aV (aZ (aA eN (aA (bC gX (aC 0) aF) (aA eG aE))))))))))
theorem JZ(T:Txt K mg):Callee P w K mg base 12 "_law_full" sL (spM K mS):=
 T.v143.okG (N:=nG) (ps:=sL) (k:=11) (b:=rF) sc__law_full (by sleep 992) fun f cdv A outer s H E hr=>
  (aN (bH 2 (fun _=>sc__law_full.nd) (CN (fun _=>iM T) (fun _=>rfl) hr.le (aA aF (aA (fP (aA (aZ (aA aF (aA aF (aA (aZ (aA aF (aA aF aE))) aE)))) aE)) aE))))
   (aN (bH 3 (fun _=>sc__law_full.nd) (uB (fun _=>jV T) hr.le (aA (aC 2) (aA (aC 1) aE))))
   (aN (dX (bM (wF (fun _=>rfl) (fun _=>hr.units)) (aZ (aA (eI (nm:="Web") (fun _=>rfl) T.v148 T.v29 (aC 3)) (aA (bW vC (fun _=>T.hB.of "len") Z2 (aA (eI (nm:="Web") (fun _=>rfl) T.v148 T.v39 (aC 3)) aE)) aE))) (aZ (aA aF (aA (bC gX aF (bW vC (fun _=>T.hB.of "len") Z2 (aA (BY (N':=(["_law_one"]:List Str)) (cap:=[none]) (fun _=>rfl) (fun _=>fB (sc0:=aH iN) (N:=nG) rfl rfl (by decide +kernel)) (iZ (fun _=>rfl) (aC 1)) (bE 0 (fun _=>(show(["_law_one"]:List Str).Nodup by decide +kernel))) (CQ (bM (wF (fun _=>rfl) (fun _=>hr.units)) (bN dE (aC 0) aF) (aZ (aA aF (aA aF aE))))) (aC 0)) aE))) aE))))
    (aP (aV eG))
    bV)
   (aN (bH 4 (fun _=>sc__law_full.nd) (fP (aA (aC 1) (aA aF (aA (fP (aA (aZ (aA aF (aA (aZ (aA aF (aA aF aE))) aE))) aE)) (aA (aZ aE) aE))))))
   (aP (aV (bW (YV (fun _=>rfl) (fun _=>rfl)) (fun _=>T.hB.of "all") boot_all (aA (BY (N':=(["_law_full_here","_law_thing"]:List Str)) (cap:=[some 3,none]) (fun _=>rfl) (fun _=>fB (sc0:=aH iN) (N:=nG) rfl rfl (by decide +kernel)) (iZ (fun _=>rfl) (aC 4)) (bE 1 (fun _=>(show(["_law_full_here","_law_thing"]:List Str).Nodup by decide +kernel))) nX (gF (qQ (fun _=>rfl) (fun _=>hr.units)) (aM (fun _=>jW T) hr.le (aA (aC 0) (aA (aC 1) (aA eG aE)))) (aZ (aA eN (aA aF (aA eG aE)))))) aE))))))))
theorem fn_law(T:Txt K mg):∃f fd,mg "law"=some (.ref f)/\(∀(s:Shared)(u:Value),BindsTo s fd ⟨[u],[]⟩ [("_law_script",u)])/\∀base,jF P w K mg base CX0 13 f fd aFd (spM K F_law):=
 T.v144.okLG (N:=aAK) (k:=12) (b:=aBS) sc_law rfl (by sleep 991) fun base f cdv A outer s H E hr=>
  (aN (vK (fun _=>J0) (fun _=>rfl) (tR (fun _=>T.hB.of "range") (aA aF aE)) (bE 1 (fun _=>sc_law.nd))
   (aN (bH 2 (fun _=>sc_law.nd) (aM (fun _=>ER T) hr.le (aA (aC 0) (aA (aC 1) aE))))
   (aN (bH 3 (fun _=>sc_law.nd) (bC gX aF (aM (fun _=>bD T) hr.le (aA (aC 2) (aA aF aE)))))
   (aN (bH 4 (fun _=>sc_law.nd) (aM (fun _=>IZ T) hr.le (aA (aC 2) (aA (aC 3) aE))))
   (aN (bH 5 (fun _=>sc_law.nd) (CN (fun _=>iM T) (fun _=>rfl) hr.le (aA (aC 3) (aA (aC 4) aE))))
   (aN (bH 6 (fun _=>sc_law.nd) (aM (fun _=>wV T) hr.le (aA (aC 2) (aA (aC 3) aE))))
   (aN (dX (fY (eM (aM (fun _=>IU T) hr.le (aA (aC 5) (aA (aC 4) (aA (aC 6) aE))))))
    (aP (aV eG))
    bV)
   (aN (dX (AK (aBm (bM OK (aC 3) aF) (SB (fY (eM (bW (YV (fun _=>rfl) (fun _=>rfl)) (fun _=>T.hB.of "all") boot_all (aA (BY (N':=(["_law_web","_law_ties_here","_law_place"]:List Str)) (cap:=[some 5,some 4,none]) (fun _=>rfl) (fun _=>fB (sc0:=aH HQ) (N:=aAK) rfl rfl (by decide +kernel)) (tR (fun _=>T.hB.of "range") (aA (aC 3) aE)) (bE 2 (fun _=>(show(["_law_web","_law_ties_here","_law_place"]:List Str).Nodup by decide +kernel))) nX (aM (fun _=>KG T) hr.le (aA (aC 0) (aA (aC 1) (aA (aC 2) aE))))) aE)))))))
    (aP (aV eG))
    bV)
   (aN (vK (fun _=>J0) (fun _=>rfl) (iZ (fun _=>rfl) (aM (fun _=>NV T) hr.le (aA (aC 2) (aA (aC 0) (aA (aC 3) (aA (aC 6) aE)))))) (bE 7 (fun _=>sc_law.nd))
    (aP (dX (bM (wF (fun _=>rfl) (fun _=>hr.units)) (aM (fun _=>jW T) hr.le (aA (aC 5) (aA (aC 7) (aA eG aE)))) (aM (fun _=>JB T) hr.le (aA (aC 3) (aA (aC 7) aE))))
    (aP (aV eG))
    bV)))
   (aN (vK (fun _=>J0) (fun _=>rfl) (iZ (fun _=>rfl) (fP (aA (aC 3) (aA (aAu aCq aF) (aA eG (aA yK (aA eN (aA (aZ (aA aF aE)) (aA (bC zL aF aF) (aA aAo aE)))))))))) (bE 7 (fun _=>sc_law.nd))
    (aP (dX (bM (wF (fun _=>rfl) (fun _=>hr.units)) (aM (fun _=>jW T) hr.le (aA (aC 5) (aA (aC 7) (aA eG aE)))) (aZ (aA eN (aA aF (aA eG aE)))))
    (aP (aV eG))
    bV)))
   (aP (dX (AK (mO (bM (wF (fun _=>rfl) (fun _=>hr.units)) (aM (fun _=>jW T) hr.le (aA (CN (fun _=>iM T) (fun _=>rfl) hr.le (aA aF (aA (aZ aE) aE))) (aA aF (aA eG aE)))) (aZ (aA eN (aA aF (aA eG aE))))) (nN (fY (eM (aM (fun _=>JZ T) hr.le (aA (aC 2) (aA (aM (fun _=>wV T) hr.le (aA (aC 2) (aA aF aE))) aE))))))))
    (aP (aV eG))
    bV))))))))))))
   (aP (aV eG)))
theorem txt_mk{h:Heap}{v167:Tok}{v168:Tok}{v169:Tok}{v170:Addr}{v171:Addr}{v172:Addr}{v173:Addr}{v174:Addr}{v175:Addr}{v176:Addr}{v177:Addr}{od_NoTie__init an_NoTie__init:Option Addr}{sl_NoTie__init:Array (Option Value)}{oc_NoTie__init kV_NoTie__init dc_NoTie__init pm_NoTie__init cd_NoTie__init ct_NoTie__init:Value}{v178:Addr}{od_TooMany__init an_TooMany__init:Option Addr}{sl_TooMany__init:Array (Option Value)}{oc_TooMany__init kV_TooMany__init dc_TooMany__init pm_TooMany__init cd_TooMany__init ct_TooMany__init:Value}{v179:Addr}{od_Web__init an_Web__init:Option Addr}{sl_Web__init:Array (Option Value)}{oc_Web__init kV_Web__init dc_Web__init pm_Web__init cd_Web__init ct_Web__init:Value}(X:K.In h)(G:h.Ns mainGlobals mg)(v0:PySem.W.nsIn K mainGlobals "ValueError"=some none)(v1:PySem.W.nsIn K mainGlobals "all"=some none)(v2:PySem.W.nsIn K mainGlobals "bool"=some none)(v3:PySem.W.nsIn K mainGlobals "enumerate"=some none)(v4:PySem.W.nsIn K mainGlobals "int"=some none)(v5:PySem.W.nsIn K mainGlobals "isinstance"=some none)(v6:PySem.W.nsIn K mainGlobals "len"=some none)(v7:PySem.W.nsIn K mainGlobals "list"=some none)(v8:PySem.W.nsIn K mainGlobals "range"=some none)(v9:PySem.W.nsIn K mainGlobals "repr"=some none)(v10:PySem.W.nsIn K mainGlobals "sorted"=some none)(v11:PySem.W.nsIn K mainGlobals "tuple"=some none)(v12:PySem.W.nsIn K mainGlobals "MOST_ABOVE"=some (some (.int 1000000000000 v167)))(v13:PySem.W.nsIn K mainGlobals "BELOW"=some (some (.int 55440 v168)))(v14:PySem.W.nsIn K mainGlobals "MOST_PLACES"=some (some (.int 40 v169)))(v15:PySem.W.nsIn K mainGlobals "NoTie"=some (some (.ref v170)))(v16:PySem.W.findIn K (.ref v170) "__getattribute__"=some (some (.builtin "BaseException.__getattribute__")))(v17:PySem.W.findIn K (.ref v170) "__getattr__"=some none)(v18:PySem.W.subIn K (.ref v170) (.type "BaseException")=some true)(v19:(PySem.W.clsIn K v170).isSome=true)(v20:PySem.W.findIn K (.ref v170) "__class__"=some (some (.builtin "object.__class__")))(v21:PySem.W.specialIn K (.builtin "object.__class__") "__get__"=some (some (.builtin "getset_descriptor.__get__")))(v22:PySem.W.takesIn K (.builtin "object.__class__")=some true)(v23:PySem.W.mroIn K v170 (.type "object")=some true)(v24:PySem.W.nsIn K mainGlobals "Web"=some (some (.ref v171)))(v25:PySem.W.plainGet K v171 Str.empty=true)(v26:PySem.W.hasDictIn K v171=true)(v27:PySem.W.plainOver K v171=true)(v28:PySem.W.findIn K (.ref v171) "__setattr__"=some (some (.builtin "object.__setattr__")))(v29:PySem.W.findIn K (.ref v171) "many"=some none)(v30:PySem.W.nsIn K mainGlobals "TooMany"=some (some (.ref v172)))(v31:PySem.W.findIn K (.ref v172) "__getattribute__"=some (some (.builtin "BaseException.__getattribute__")))(v32:PySem.W.findIn K (.ref v172) "__getattr__"=some none)(v33:PySem.W.subIn K (.ref v172) (.type "BaseException")=some true)(v34:(PySem.W.clsIn K v172).isSome=true)(v35:PySem.W.findIn K (.ref v172) "__class__"=some (some (.builtin "object.__class__")))(v36:PySem.W.specialIn K (.builtin "object.__class__") "__get__"=some (some (.builtin "getset_descriptor.__get__")))(v37:PySem.W.takesIn K (.builtin "object.__class__")=some true)(v38:PySem.W.mroIn K v172 (.type "object")=some true)(v39:PySem.W.findIn K (.ref v171) "ties"=some none)(v40:PySem.W.nsIn K mainGlobals "NoPlace"=some (some (.ref v173)))(v41:PySem.W.excIn K v173 bmV "ValueError.__new__"=true)(v42:PySem.W.findIn K (.ref v173) "__getattribute__"=some (some (.builtin "BaseException.__getattribute__")))(v43:PySem.W.findIn K (.ref v173) "__getattr__"=some none)(v44:PySem.W.subIn K (.ref v173) (.type "BaseException")=some true)(v45:(PySem.W.clsIn K v173).isSome=true)(v46:PySem.W.findIn K (.ref v173) "__class__"=some (some (.builtin "object.__class__")))(v47:PySem.W.specialIn K (.builtin "object.__class__") "__get__"=some (some (.builtin "getset_descriptor.__get__")))(v48:PySem.W.takesIn K (.builtin "object.__class__")=some true)(v49:PySem.W.mroIn K v173 (.type "object")=some true)(v50:oX K (.type "ValueError") fI=true)(v51:PySem.W.kitOne K (.type "NoneType") (.type "ValueError")=some false)(v52:PySem.W.nsIn K mainGlobals "CutError"=some (some (.ref v174)))(v53:oX K (.ref v174) iK=true)(v54:PySem.W.kitOne K (.type "NoneType") (.ref v174)=some false)(v55:PySem.W.nsIn K mainGlobals "NoWeight"=some (some (.ref v175)))(v56:oX K (.ref v175) iG=true)(v57:PySem.W.kitOne K (.type "NoneType") (.ref v175)=some false)(v58:PySem.W.nsIn K mainGlobals "NoLine"=some (some (.ref v176)))(v59:oX K (.ref v176) lO=true)(v60:PySem.W.kitOne K (.type "NoneType") (.ref v176)=some false)(v61:PySem.W.exmOne K (.ref v173) (.ref v173)=some true)(v62:PySem.W.exmOne K (.ref v172) (.ref v173)=some false)(v63:PySem.W.exmOne K (.ref v170) (.ref v173)=some false)(v64:oX K (.ref v170) jY=true)(v65:PySem.W.kitOne K (.type "NoneType") (.ref v170)=some false)(v66:PySem.W.exmOne K (.ref v173) (.ref v170)=some false)(v67:PySem.W.exmOne K (.ref v172) (.ref v170)=some false)(v68:PySem.W.exmOne K (.ref v170) (.ref v170)=some true)(v69:oX K (.ref v172) lR=true)(v70:PySem.W.kitOne K (.type "NoneType") (.ref v172)=some false)(v71:PySem.W.findIn K (.ref v170) "__setattr__"=some (some (.builtin "object.__setattr__")))(v72:RS K v170=true)(v73:PySem.W.takerIn K v170 "at"=some none)(v74:PySem.W.hasDictIn K v170=true)(v75:PySem.W.findIn K (.ref v170) "at"=some none)(v76:PySem.W.exmOne K (.ref v173) (.ref v172)=some false)(v77:PySem.W.exmOne K (.ref v172) (.ref v172)=some true)(v78:PySem.W.exmOne K (.ref v170) (.ref v172)=some false)(v79:PySem.W.findIn K (.ref v172) "__setattr__"=some (some (.builtin "object.__setattr__")))(v80:RS K v172=true)(v81:PySem.W.takerIn K v172 "most"=some none)(v82:PySem.W.hasDictIn K v172=true)(v83:PySem.W.findIn K (.ref v172) "most"=some none)(v84:PySem.W.keepIn K (.ref v170)=true)(v85:DP K v170=true)(v86:PySem.W.findIn K (.ref v170) "__init__"=some (some (.ref v177)))(v87:K.lookup v177=some ⟨oc_NoTie__init,od_NoTie__init,.func (PySem.W.fnOf "__init__" "NoTie.__init__" (dW fX) (bQ fX) (aH fX) .none kV_NoTie__init dc_NoTie__init pm_NoTie__init an_NoTie__init cd_NoTie__init ct_NoTie__init),sl_NoTie__init⟩)(v88:PySem.W.codeIn K cd_NoTie__init "NoTie.__init__"=true)(v89:PySem.W.keepIn K (.ref v177)=true)(v90:PySem.W.isFn K (.ref v177)=true)(v91:PySem.W.keepIn K (.ref v172)=true)(v92:DP K v172=true)(v93:PySem.W.findIn K (.ref v172) "__init__"=some (some (.ref v178)))(v94:K.lookup v178=some ⟨oc_TooMany__init,od_TooMany__init,.func (PySem.W.fnOf "__init__" "TooMany.__init__" (dW eL) (bQ eL) (aH eL) .none kV_TooMany__init dc_TooMany__init pm_TooMany__init an_TooMany__init cd_TooMany__init ct_TooMany__init),sl_TooMany__init⟩)(v95:PySem.W.codeIn K cd_TooMany__init "TooMany.__init__"=true)(v96:PySem.W.keepIn K (.ref v178)=true)(v97:PySem.W.isFn K (.ref v178)=true)(v98:PySem.W.findIn K (.ref v171) "weights"=some none)(v99:PySem.W.findIn K (.ref v171) "__init__"=some (some (.ref v179)))(v100:K.lookup v179=some ⟨oc_Web__init,od_Web__init,.func (PySem.W.fnOf "__init__" "Web.__init__" (dW gL) (bQ gL) (aH gL) .none kV_Web__init dc_Web__init pm_Web__init an_Web__init cd_Web__init ct_Web__init),sl_Web__init⟩)(v101:PySem.W.codeIn K cd_Web__init "Web.__init__"=true)(v102:PySem.W.keepIn K (.ref v179)=true)(v103:PySem.W.isFn K (.ref v179)=true)(v104:PySem.W.makesIn K v171=true)(v105:PySem.W.keepIn K (.ref v171)=true)(v106:Def K mg "_law_stream" mF)(v107:Def K mg "_law_take" qK)(v108:Def K mg "_law_pick" pM)(v109:Def K mg "_law_least" nQ)(v110:Def K mg "_law_weight" lZ)(v111:Def K mg "_law_ties" pW)(v112:Def K mg "is_whole" rR)(v113:Def K mg "is_row" yI)(v114:Def K mg "common" yT)(v115:Def K mg "is_row_of" qH)(v116:Def K mg "has_amount_numbers" fQ)(v117:Def K mg "is_in_parts" lW)(v118:Def K mg "is_weight" pP)(v119:Def K mg "is_place" tH)(v120:Def K mg "are_unlike_places" gA)(v121:Def K mg "is_between_places" gC)(v122:Def K mg "is_tie" zE)(v123:Def K mg "kept_ties" lJ)(v124:Def K mg "_law_ends" pJ)(v125:Def K mg "_law_due" nE)(v126:Def K mg "_law_lists" jR)(v127:Def K mg "new_tie" vU)(v128:Def K mg "with_place" jU)(v129:Def K mg "_law_spoil" oE)(v130:Def K mg "_law_come" lL)(v131:Def K mg "renumbered" nY)(v132:Def K mg "without_place" eQ)(v133:Def K mg "_law_gone" iR)(v134:Def K mg "_law_any" mK)(v135:Def K mg "_law_odd" sA)(v136:Def K mg "_law_alone" oB)(v137:Def K mg "_law_found" nT)(v138:Def K mg "_law_is_row" lQ)(v139:Def K mg "_law_is_whole" jL)(v140:Def K mg "_law_is_amount" fT)(v141:Def K mg "_law_is_weight" iV)(v142:Def K mg "_law_told" qF)(v143:Def K mg "_law_full" iN)(v144:Def K mg "law" HQ):Txt K mg:=by
 cases qC v15;cases qC v24;cases qC v30;cases qC v40;cases qC v52;cases qC v55;cases qC v58;exact⟨(eA (E4 X G v0) (eA (E4 X G v1) (eA (E4 X G v2) (eA (E4 X G v3) (eA (E4 X G v4) (eA (E4 X G v5) (eA (E4 X G v6) (eA (E4 X G v7) (eA (E4 X G v8) (eA (E4 X G v9) (eA (E4 X G v10) (eA (E4 X G v11) ZU)))))))))))),⟨_,J1 X G v12⟩,⟨_,J1 X G v13⟩,⟨_,J1 X G v14⟩,J1 X G v15,⟨⟨v16,v17,v18,v19⟩,v20,v21,v22,v23⟩,J1 X G v24,⟨v25,v26,v27,v28⟩,v29,J1 X G v30,⟨⟨v31,v32,v33,v34⟩,v35,v36,v37,v38⟩,v39,J1 X G v40,v41,⟨⟨v42,v43,v44,v45⟩,v46,v47,v48,v49⟩,v50,v51,J1 X G v52,v53,v54,J1 X G v55,v56,v57,J1 X G v58,v59,v60,v61,v62,v63,v64,v65,v66,v67,v68,v69,v70,⟨v71,v72,v73,v74,v75⟩,v76,v77,v78,⟨v79,v80,v81,v82,v83⟩,v84,v85,JT rfl v86 v87 v88 v89 v90,v91,v92,JT rfl v93 v94 v95 v96 v97,v98,JT rfl v99 v100 v101 v102 v103,v104,v105,v106,v107,v108,v109,v110,v111,v112,v113,v114,v115,v116,v117,v118,v119,v120,v121,v122,v123,v124,v125,v126,v127,v128,v129,v130,v131,v132,v133,v134,v135,v136,v137,v138,v139,v140,v141,v142,v143,v144⟩
end
end Q7
end
end
section
namespace Q7
variable{L M M' N:Sto}{J a b j n p y:Int}{es us vs:List Tie}{c i m s w:Nat}{x z:CD}{q r:PyData}{ds l xs:List PyData}{γ γ':Ga}{fa:AF}{self:FN}{g:GF}{ns:List Int}{c':Cell}{f:EF}{nm:Str}
open PySem PySem.Spec PyProof.Rows L2
local macro_rules | `(tactic| simp! [$a,*]) => `(tactic| simp only [fnF, fnX, lV, IJ, MM, aIh, TV, GY, YK, aFo, liA, liE, liS, CO, aDe, aBB, aIu, aCw, setG, uN, wH, bO, sIf, cD, aJs, cS, dA, zX, hName, qP, bL, kO, hSub, gOr, ZL, pB, gB, IS, aDn, aK, aB, aI, aD, fC, fOp, fUn, kD, fOr, DX, fIf, BR, asB, cK, lM, wG, iQ, IW, aJE, pI, ifS, YY, pK, OH, GB, uG, xS, ltI, leI, gtI, geI, Option.bind_some, Option.bind_none, Option.map_some, List.getElem?_cons_zero, List.getElem?_cons_succ, List.length_cons, List.length_nil, List.set_cons_zero, List.set_cons_succ, List.map_cons, List.map_nil, List.replicate_zero, List.replicate_succ, List.cons_append, List.nil_append, List.append_nil, if_true, ite_true, ite_false, Nat.reduceAdd, Nat.reduceSub, reduceIte, Bool.not_true, Bool.not_false, Bool.false_eq_true, $a,*])
noncomputable abbrev I(n:Int):CD:=.d (.int n)
noncomputable abbrev B(b:Bool):CD:=.d (.bool b)
mutual
theorem JV{M:Sto}:∀(n:Nat)(x:CD)(d:PyData),snap n M x=some d->snap (n+1) M x=some d
 |n,.d y=>fun d h=>by rw[eP]at h ⊢;exact h
 |0,.c i=>fun d h=>by unfold snap at h;cases h
 |n+1,.c i=>fun d h=>by
  unfold snap at h ⊢;cases e:M[i]? with
  |none=>rw[e]at h;cases h
  |some c=>
   rw[e]at h;cases c with
   |lst xs=>
    obtain⟨ds,h1,h⟩:=aG (show(cM n M xs).bind _=_ from h);cases h;show(cM (n+1) M xs).bind _=_;rw[DF n xs ds h1];rfl
   |_=>cases h
 |0,.t xs=>fun d h=>by unfold snap at h;cases h
 |n+1,.t xs=>fun d h=>by
  unfold snap at h ⊢;obtain⟨ds,h1,h⟩:=aG h;cases h;rw[DF n _ ds h1];rfl
 |0,.f xs=>fun d h=>by unfold snap at h;cases h
 |n+1,.f xs=>fun d h=>by unfold snap at h;cases h
theorem DF{M:Sto}:∀(n:Nat)(xs:List CD)(ds:List PyData),cM n M xs=some ds->cM (n+1) M xs=some ds
 |_,[]=>fun ds h=>by unfold cM at h ⊢;exact h
 |n,x::xs=>fun ds h=>by
  unfold cM at h ⊢;obtain⟨d,h1,h⟩:=aG h;obtain⟨es,h2,h⟩:=aG h;cases h;rw[JV n x d h1];show(cM (n+1) M xs).bind _=_;rw[DF n xs es h2];rfl
end
noncomputable def Rds(M:Sto)(x:CD)(d:PyData):Prop:=snap 5 M x=some d
theorem Rds.d{d:PyData}:Rds M (.d d) d:=eP
theorem EI{M:Sto}{n:Nat}:∀{xs:List CD}{ds:List PyData},cM n M xs=some ds->xs.length=ds.length/\∀(j:Nat) e,ds[j]?=some e->∃y,xs[j]?=some y/\snap n M y=some e
 |[],ds=>fun h=>by unfold cM at h;cases h;exact⟨rfl,fun j e q=>by cases q⟩
 |x::xs,ds=>fun h=>by
  unfold cM at h;obtain⟨d,h1,h⟩:=aG h;obtain⟨es,h2,h⟩:=aG h;cases h;obtain⟨k1,k2⟩:=EI h2;refine⟨by rw[C0,C0,k1],fun j e q=>?_⟩;cases j with
  |zero=>cases q;exact⟨x,rfl,h1⟩
  |succ j=>exact k2 j e q
theorem Rds.items{d:PyData}(h:Rds M x d)(hd:aW d=some ds):gP [x] M=some (I ds.length,M)/\∀(j:Nat) e,ds[j]?=some e->∃y,ixF x (I j) M=some (y,M)/\Rds M y e:=by
 cases x with
 |d z=>
  rw[Rds,eP]at h;cases h;refine⟨by show(aW d).bind _=_;rw[hd];rfl,fun j e he=>⟨.d e,?_,eP⟩⟩;show(aW d).bind (fun ds=>(atI ds (j:Int)).bind fun e=>some (CD.d e,M))=_;rw[hd,A1,AN he];rfl
 |c i=>
  unfold Rds snap at h;cases e:M[i]? with
  |none=>rw[e]at h;cases h
  |some c=>
   rw[e]at h;cases c with
   |lst xs=>
    obtain⟨es,h1,h⟩:=aG (show(cM 4 M xs).bind _=_ from h);cases h;cases hd;obtain⟨k1,k2⟩:=EI h1;refine⟨by simp only[gP,e,k1],fun j f hf=>?_⟩;obtain⟨y,hy,hs⟩:=k2 j f hf;exact⟨y,by simp only[ixF,e,AN hy,Option.bind_some],JV 4 y f hs⟩
   |_=>cases h
 |f kvs=>unfold Rds snap at h;cases h
 |t xs=>
  unfold Rds snap at h;obtain⟨es,h1,h⟩:=aG h;cases h;cases hd;obtain⟨k1,k2⟩:=EI h1;refine⟨by rw[<- k1,A8];rfl,fun j f hf=>?_⟩;obtain⟨y,hy,hs⟩:=k2 j f hf;rw[D5]at hy;cases q:xs[j]? with
  |none=>rw[q]at hy;cases hy
  |some z=>
   rw[q]at hy;cases hy;exact⟨_,by simp only[ixF,AN q,Option.bind_some],JV 4 _ f hs⟩
noncomputable def fD:PyData->Bool
 |.int _=>true
 |_=>false
noncomputable def iC:PyData->Bool
 |.list _=>true
 |.tuple _=>true
 |_=>false
theorem RJ{d:PyData}(h:Rds M x d):dU [x] M=some (B (fD d),M):=by
 simp![dU,vW,oZ,show snap 5 M x=some d from h];cases d<;>rfl
theorem xR{d:PyData}(h:Rds M x d):gZ [x] M=some (B (iC d),M):=by
 simp![gZ,CI,HZ,show snap 5 M x=some d from h];cases d<;>rfl
theorem rA{i:Int}:eqX false (I i) (I j) M=some (B (i==j),M):=rfl
theorem yZ{i:Int}:eqX true (I i) (I j) M=some (B (!(i==j)),M):=rfl
theorem mV{i:Int}:dP (I i) (I j) M=some (I (i+j),M):=rfl
theorem kJ{d:PyData}(n:Int)(h:Rds M x d)(hd:aW d=some ds):cW [x,I n] M=some (B ((ds.length:Int)==n),M):=by
 have e1:gZ [x] M=some (B true,M):=by
  rw[xR h];cases d<;>first|rfl|cases hd
 simp![cW,mR,e1,(h.items hd).1,rA]
theorem iE(x:PyData)(M:Sto):dU [.d x] M=some (.d (.bool (fD x)),M):=RJ Rds.d
theorem jA(x:PyData)(M:Sto):gZ [.d x] M=some (.d (.bool (iC x)),M):=xR Rds.d
noncomputable def cZ(d:PyData)(n:Int):Bool:=match aW d with
 |some ds=>((ds.length:Int)==n)
 |none=>false
theorem eD(x:PyData)(n:Int)(M:Sto):cW [.d x,.d (.int n)] M=some (.d (.bool (cZ x n)),M):=by
 cases e:aW x with
 |some ds=>
  rw[kJ n Rds.d e];unfold cZ;rw[e]
 |none=>
  have h1:iC x=false:=by cases x<;>first|rfl|cases e
  have h2:cZ x n=false:=by unfold cZ;rw[e]
  rw[h2];simp![cW,mR,jA,h1]
theorem LI(x y:Int):Int.gcd y (x % y)=Int.gcd x y:=by
 rw[Int.gcd_comm x y];have:x % y=x-y*(x / y):=by have:=Int.emod_add_mul_ediv x y;omega
 rw[this];simp
theorem iU{x:Int}(h:0<y):sC x y=true:=by simp[sC,h]
theorem zU(M:Sto):∀(n:Nat)(x y:Int),0<=x->0<=y->y.toNat<n->
 gR (IS (aD 1)) (LN 0 1 (aB (aD 1) (aB (fOp uG (aD 0) (aD 1)) aI))) n [some (I x),some (I y)] M=some (.nx [some (I (Int.gcd x y)),some (I 0)],M)
 |0=>fun _ _ _ _ h=>by omega
 |n+1=>fun x y hx hy h=>by
  by_cases e:y=0
  .subst e;have:(Int.gcd x 0:Int)=x:=by rw[Int.gcd_zero_right];omega
   rw[this];rfl
  .have hp:0<y:=by omega
   have ih:=zU M n y (x % y) hy (O7 _ e) (by have:=L4 x hp;omega);rw[LI]at ih;rw[<- ih];have hb:(y != 0)=true:=by simp[e]
   simp only[gR,IS,aD,aDn,LN,aB,fOp,aI,uG,pI,ifS,iU hp,hb,Option.bind,List.getElem?_cons_succ,List.getElem?_cons_zero,if_true,List.set]
theorem ND(M:Sto)(ha:0<=a)(hb:0<=b):DC [I a,I b] M=some (I (Int.gcd a b),M):=by
 have h:vE [some (I a),some (I b)] M=_:=KP (zU M (b.toNat+1) a b ha hb (F5 _));show((bO vE _ [some (I a),some (I b)] M).bind _)=_;unfold bO;rw[h];rfl
noncomputable def jH(d:PyData):Bool:=match aW d with
 |some [.int a,.int b]=>decide (0<=a)&&decide (1<=b)
 |_=>false
theorem aBn{x:PyData}(h:cZ x 2=true):∃a b,x=.list [a,b]\/x=.tuple [a,b]:=by
 unfold cZ at h;cases x with
 |list ds=>
  have h:((ds.length:Int)==2)=true:=h;rcases ds with _|⟨a,_|⟨b,_|⟨c,r⟩⟩⟩
  .simp at h
  .simp at h
  .exact⟨a,b,.inl rfl⟩
  .simp at h;omega
 |tuple ds=>
  have h:((ds.length:Int)==2)=true:=h;rcases ds with _|⟨a,_|⟨b,_|⟨c,r⟩⟩⟩
  .simp at h
  .simp at h
  .exact⟨a,b,.inr rfl⟩
  .simp at h;omega
 |_=>simp[aW]at h
theorem BQ{x:PyData}(h:cZ x 2=false):jH x=false:=by
 unfold jH;unfold cZ at h;cases q:aW x with
 |none=>rfl
 |some ds=>
  rw[q]at h;rcases ds with _|⟨a,_|⟨b,_|⟨c,r⟩⟩⟩
  .rfl
  .cases a<;>rfl
  .simp at h
  .cases a<;>cases b<;>rfl
theorem aKt{p q:Bool}:(if p=true then some (B q,M)else some (B false,M))=some (B (p&&q),M):=by cases p<;>rfl
theorem eB(x:PyData)(M:Sto):bG [.d x] M=some (B (jH x),M):=by
 cases h:cZ x 2 with
 |false=>
  rw[BQ h];simp![bG,bX,eD,h]
 |true=>
  obtain⟨a,b,hx⟩:∃a b,aW x=some [a,b]:=by
   obtain⟨a,b,rfl|rfl⟩:=aBn h<;>exact⟨a,b,rfl⟩
  have x0:ixF (.d x) (I 0) M=some (.d a,M):=by show(aW x).bind _=_;rw[hx];rfl
  have x1:ixF (.d x) (I 1) M=some (.d b,M):=by show(aW x).bind _=_;rw[hx];rfl
  cases ha:fD a with
  |false=>
   have e:jH x=false:=by unfold jH;rw[hx];cases a<;>first|rfl|cases ha
   rw[e];simp![bG,bX,eD,h,iE,x0,ha]
  |true=>
   cases hb:fD b with
   |false=>
    have e:jH x=false:=by unfold jH;rw[hx];cases a<;>cases b<;>first|rfl|cases hb
    rw[e];simp![bG,bX,eD,h,iE,x0,x1,ha,hb]
   |true=>
    obtain⟨i,rfl⟩:∃i,a=.int i:=by cases a<;>first|exact⟨_,rfl⟩|cases ha
    obtain⟨j,rfl⟩:∃j,b=.int j:=by cases b<;>first|exact⟨_,rfl⟩|cases hb
    have e:jH x=(decide (0<=i)&&decide (1<=j)):=by unfold jH;rw[hx]
    rw[e];simp![bG,bX,eD,h,iE,x0,x1,ha,hb,aKt]
noncomputable def P(k:Bool)(a b:Int):PyData:=if k then .list [.int a,.int b]else .tuple [.int a,.int b]
theorem OD{k:Bool}:ixF (.d (P k a b)) (I 0) M=some (I a,M):=by cases k<;>rfl
theorem VT{k:Bool}:ixF (.d (P k a b)) (I 1) M=some (I b,M):=by cases k<;>rfl
theorem aCn{k:Bool}:jH (P k a b)=(decide (0<=a)&&decide (1<=b)):=by cases k<;>rfl
noncomputable def xG(a b:Int):Bool:=decide (0<=a)&&decide (1<=b)&&(Int.gcd a b==1)
theorem aKu(n m:Nat):((n:Int)==(m:Int))=(n==m):=by
 rw[O3];simp;omega
noncomputable def fR(a b:Int):Bool:=decide (0<=a)&&decide (1<=b)&&(55440 % b==0)&&(Int.gcd a b==1)&&decide (a<=1000000000000)
theorem uT(k:Bool)(a b:Int)(M:Sto):cN [.d (P k a b)] M=some (B (decide (0<=a)&&decide (1<=b)&&(55440 % b==0)&&(Int.gcd a b==1)),M):=by
 cases h:(decide (0<=a)&&decide (1<=b))with
 |false=>
  simp![cN,eJ,eB,aCn,h,Bool.false_and]
 |true=>
  have hh:=h;rw[B4]at h;have h1:=C3 h.1;have h2:=C3 h.2;have hm:sC 55440 b=true:=iU (by omega);cases h3:(55440 % b==0)with
  |false=>simp![cN,eJ,eB,aCn,hh,OD,VT,hm,rA,h3,Bool.true_and,Bool.false_and]
  |true=>
   simp![cN,eJ,eB,aCn,hh,OD,VT,hm,rA,h3,Bool.true_and,ND M h1 (Int.le_trans (by decide) h2)];rw[show(1:Int)=((1:Nat):Int)from rfl,aKu]
theorem OJ(k:Bool)(a b:Int)(M:Sto):eC [.d (P k a b)] M=some (B (fR a b),M):=by
 cases h:(decide (0<=a)&&decide (1<=b)&&(55440 % b==0)&&(Int.gcd a b==1))with
 |false=>
  have e:fR a b=false:=by unfold fR;rw[h];rfl
  rw[e];simp![eC,iJ,uT,h]
 |true=>
  have e:fR a b=decide (a<=1000000000000):=by unfold fR;rw[h];rfl
  rw[e];simp![eC,iJ,uT,h,OD]
theorem DE(M:Sto)(a b:Int):∀(n:Nat)(x y:Int),0<=x->0<=y->y.toNat<n->
 gR (gB (fOp gtI (aD 3) (fC (.int 0)))) (LN 2 3 (aB (aD 3) (aB (fOp uG (aD 2) (aD 3)) aI))) n [some (I a),some (I b),some (I x),some (I y)] M=some (.nx [some (I a),some (I b),some (I (Int.gcd x y)),some (I 0)],M)
 |0=>fun _ _ _ _ h=>by omega
 |n+1=>fun x y hx hy h=>by
  by_cases e:y=0
  .subst e;have:(Int.gcd x 0:Int)=x:=by rw[Int.gcd_zero_right];omega
   rw[this];rfl
  .have hp:0<y:=by omega
   have ih:=DE M a b n y (x % y) hy (O7 _ e) (by have:=L4 x hp;omega);rw[LI]at ih;rw[<- ih];have hb:decide (0<y)=true:=C7 hp;simp![gR,LN,iU hp,hb]
theorem JI(h:1<=b):1<=(Int.gcd a b:Int):=by
 have:Int.gcd a b≠0:=fun z=>by have:=(Int.gcd_eq_zero_iff.mp z).2;omega
 omega
theorem aGU(h:1<=b):(Int.gcd a b:Int)<=b:=Int.le_of_dvd (by omega) (Int.gcd_dvd_right a b)
theorem wsm(h:0<=y)(h2:y<2 ^ 200):y.natAbs<rH:=by
 have h1:y.natAbs<2 ^ 200:=by omega
 exact B8 h1 (Y0 (by decide) (by decide))
theorem SH{x:Int}(h:0<y)(h2:y.natAbs<rH):HD x y=true:=by simp[HD,h,h2]
theorem JQ(M:Sto)(ha:0<=a)(hb:1<=b)(hw:b.natAbs<rH):jC [I a,I b] M=some (.d (.tuple [.int (a / (Int.gcd a b:Int)),.int (b / (Int.gcd a b:Int))]),M):=by
 have h:sW [some (I a),some (I b),some (I a),some (I b)] M=_:=KP (DE M a b (b.toNat+1) a b ha (by omega) (F5 _));have g1:=JI (a:=a) hb;have g2:=aGU (a:=a) hb;have d1:∀x,HD x (Int.gcd a b:Int)=true:=fun x=>SH (by omega) (Z1 (by omega) hw);have sz:(2:Nat)<=sizeLine:=by decide
 simp![jC,pT,h,d1,sz]
theorem qN(k:Bool)(a b:Int)(M:Sto):fO [.d (P k a b)] M=some (B true,M):=by cases k<;>rfl
theorem vR(k:Bool)(a b:Int)(M:Sto):iF [some (.d (P k a b))] M=some (.d (.list [.bool true,.bool true]),M):=by cases k<;>rfl
theorem PZ(k:Bool)(a b:Int)(M:Sto):gP [.d (P k a b)] M=some (I 2,M):=by cases k<;>rfl
theorem QU(M:Sto):CP [.d (.list [.bool true,.bool true])] M=some (B true,M):=rfl
theorem aKC{c d:Int}:eqX false (.d (.tuple [.int a,.int b])) (.d (.tuple [.int c,.int d])) M=some (B (a==c&&(b==d&&true)),M):=rfl
theorem XT(ha:0<=a)(hb:1<=b):((a / (Int.gcd a b:Int)==a)&&((b / (Int.gcd a b:Int)==b)&&true))=(Int.gcd a b==1):=by
 have g1:=JI (a:=a) hb;by_cases h:Int.gcd a b=1
 .rw[h];simp
 .have hb2:b / (Int.gcd a b:Int)<b:=Int.ediv_lt_self_of_pos_of_ne_one (by omega) (by omega);have e1:(b / (Int.gcd a b:Int)==b)=false:=by rw[beq_eq_false_iff_ne];omega
  have e2:(Int.gcd a b==1)=false:=by rw[beq_eq_false_iff_ne];exact h
  rw[e1,e2];simp
theorem hJ(k:Bool)(a b:Int)(M:Sto)(hw:b.natAbs<rH):bS [.d (P k a b)] M=some (B (xG a b),M):=by
 have h2:((2:Int)==2)=true:=rfl;by_cases ha:0<=a
 .by_cases hb:1<=b
  .have e:xG a b=(Int.gcd a b==1):=by unfold xG;rw[C7 ha,C7 hb];rfl
   have n1:decide (a<0)=false:=B9 (by omega);have n2:decide (b<1)=false:=B9 (by omega);have sz:(2:Nat)<=sizeLine:=by decide
   rw[e,<- XT ha hb];simp![bS,cJ,qN,PZ,yZ,h2,vR,QU,OD,VT,n1,n2,JQ M ha hb hw,sz,aKC]
  .have e:xG a b=false:=by unfold xG;rw[B9 hb];simp
   have n2:decide (b<1)=true:=C7 (by omega);have n1:decide (a<0)=false:=B9 (by omega);rw[e];simp![bS,cJ,qN,PZ,yZ,h2,vR,QU,OD,VT,n1,n2]
 .have e:xG a b=false:=by unfold xG;rw[B9 ha];simp
  have n1:decide (a<0)=true:=C7 (by omega);rw[e];simp![bS,cJ,qN,PZ,yZ,h2,vR,QU,OD,VT,n1]
theorem YJ:fR a b=(xG a b&&(decide (a<=10 ^ (12:Int).toNat)&&(55440 % b==0))):=by
 unfold fR xG;show _=(_&&(decide (a<=1000000000000)&&_));cases decide (0<=a)<;>cases decide (1<=b)<;>cases (55440 % b==0)<;>cases (Int.gcd a b==1)<;>cases decide (a<=1000000000000)<;>rfl
theorem AE(k:Bool)(a b:Int)(M:Sto)(hw:b.natAbs<rH):cI [.d (P k a b)] M=some (B (fR a b),M):=by
 have hp:wK 10 12=true:=by decide
 rw[YJ];cases h:xG a b with
 |false=>simp![cI,dN,hJ k a b M hw,h,Bool.false_and]
 |true=>
  have hb:0<b:=by
   unfold xG at h;simp only[Bool.and_eq_true,decide_eq_true_eq]at h;omega
  cases h2:decide (a<=10 ^ (12:Int).toNat)with
  |false=>simp![cI,dN,hJ k a b M hw,h,Bool.true_and,Bool.false_and,OD,hp,h2]
  |true=>simp![cI,dN,hJ k a b M hw,h,Bool.true_and,OD,VT,hp,h2,iU hb,rA]
noncomputable def Stm(M:Sto)(i:Nat):Prop:=∃a b:Int,M[i]?=some (.lst [I a,I b])/\0<=a/\0<=b/\b<2 ^ 40
noncomputable def Nxt(i:Nat)(M M':Sto):Prop:=∃a b:Int,M'=M.set i (.lst [I a,I b])/\0<=a/\0<=b/\b<2 ^ 40
theorem Stm.lt(h:Stm M i):i<M.length:=by
 obtain⟨a,b,h,_⟩:=h;exact(List.getElem?_eq_some_iff.mp h).1
theorem Nxt.stm(n:Nxt i M M')(h:Stm M i):Stm M' i:=by
 obtain⟨a,b,rfl,r⟩:=n;exact⟨a,b,by rw[E3 h.lt],r⟩
theorem Nxt.trans{M1 M2:Sto}(n:Nxt i M M1)(m:Nxt i M1 M2):Nxt i M M2:=by
 obtain⟨a,b,rfl,_⟩:=n;obtain⟨c,d,rfl,r⟩:=m;exact⟨c,d,by rw[List.set_set],r⟩
theorem aGa{y:CD}(h:M[i]?=some (.lst [x,y])):ixF (.c i) (I 0) M=some (x,M):=by
 unfold ixF;dsimp only;rw[h];rfl
theorem aIi{y:CD}(h:M[i]?=some (.lst [x,y])):ixF (.c i) (I 1) M=some (y,M):=by
 unfold ixF;dsimp only;rw[h];rfl
theorem aJH{y:CD}(h:M[i]?=some (.lst [x,y])):JD (.c i) (I 0) z M=some (M.set i (.lst [z,y])):=by
 unfold JD;dsimp only;rw[h];rfl
theorem aJv{y:CD}(h:M[i]?=some (.lst [x,y])):JD (.c i) (I 1) z M=some (M.set i (.lst [x,z])):=by
 unfold JD;dsimp only;rw[h];rfl
theorem IV{x:Int}(h:y.natAbs<2 ^ 64):sQ x y=true:=by simp only[sQ,decide_eq_true h,Bool.or_true,Bool.true_or]
theorem aCP{x:Int}(h:x.natAbs<2 ^ 64):sQ x y=true:=by simp only[sQ,decide_eq_true h,Bool.true_or]
theorem fS{m:Int}(h:Stm M i)(m0:0<m)(m1:m<2 ^ 200):∃r M',aX [.c i,I m] M=some (I r,M')/\0<=r/\r<m/\Nxt i M M':=by
 obtain⟨a,b,hM,a0,b0,b1⟩:=h;have lt:i<M.length:=(List.getElem?_eq_some_iff.mp hM).1;cases e:(a==0)with
 |true=>
  have q0:=O7 (b*48271+12345) (b:=2147483647) (by decide);have q1:=L4 (b*48271+12345) (b:=2147483647) (by decide);have o1:sQ b 48271=true:=IV (by decide);have o2:sC (b*48271+12345) 2147483647=true:=iU (by decide);obtain⟨c,hc⟩:∃c,(b*48271+12345) % 2147483647=c:=⟨_,rfl⟩;rw[hc]at q0 q1;have hM1:(M.set i (.lst [I a,I c]))[i]?=some (.lst [I a,I c]):=by rw[E3 lt]
  have o3:sQ c c=true:=IV (by omega);have o4:sC (c*c) 2147483629=true:=iU (by decide);have o5:sC (c*c % 2147483629) m=true:=iU m0;refine⟨c*c % 2147483629 % m,M.set i (.lst [I a,I c]),?_,O7 _ (by omega),L4 _ m0,a,c,rfl,a0,q0,by omega⟩;simp![aX,mY,aGa hM,aIi hM,rA,mV,e,o1,o2,hc,aJv hM,aIi hM1,o3,o4,o5]
 |false=>
  have o1:sC a m=true:=iU m0;have o2:HD a m=true:=SH m0 (wsm (by omega) m1);refine⟨a % m,M.set i (.lst [I (a / m),I b]),?_,O7 _ (by omega),L4 _ m0,a / m,b,rfl,Int.ediv_nonneg a0 (by omega),b0,b1⟩;simp![aX,mY,aGa hM,rA,e,o1,o2,aJH hM]
theorem ixL{j:Nat}{d:PyData}(h:ds[j]?=some d):ixF (.d (.list ds)) (I j) M=some (.d d,M):=by
 have hlt:j<ds.length:=(List.getElem?_eq_some_iff.mp h).1;have e:atI ds (j:Int)=some d:=AN h;unfold ixF;dsimp only;show(some ds).bind _=_;rw[A1,e];rfl
theorem RA(h:Stm M i)(h0:0<ds.length)(h1:ds.length<1000):∃d M',iH [.c i,.d (.list ds)] M=some (.d d,M')/\d∈ds/\Nxt i M M':=by
 obtain⟨r,M',e,r0,r1,n⟩:=fS (m:=(ds.length:Int)) h (by omega) (by omega);have hlt:r.toNat<ds.length:=by omega
 have hd:ds[r.toNat]?=some ds[r.toNat]:=B5 hlt;have hr:(r.toNat:Int)=r:=Int.toNat_of_nonneg r0;have hx:=ixL (M:=M') hd;rw[hr]at hx;have hl:gP [.d (.list ds)] M=some (I ds.length,M):=rfl;refine⟨ds[r.toNat],M',?_,L8 hlt,n⟩;simp![iH,sR,hl,e,hx]
noncomputable abbrev T2(a b:Int):CD:=.d (.tuple [.int a,.int b])
theorem HF(h0:0<=a)(h1:a<=1000000000000)(h2:1<=b)(h3:b ∣ 55440):fR (a / (Int.gcd a b:Int)) (b / (Int.gcd a b:Int))=true:=by
 have g1:=JI (a:=a) h2;have gd:((Int.gcd a b:Int)) ∣ b:=Int.gcd_dvd_right a b;have e1:0<=a / (Int.gcd a b:Int):=Int.ediv_nonneg h0 (by omega);have e2:a / (Int.gcd a b:Int)<=1000000000000:=Int.le_trans (Int.ediv_le_self _ h0) h1;have e3:0<b / (Int.gcd a b:Int):=Int.ediv_pos_of_pos_of_dvd (by omega) (by omega) gd;have e4:55440 % (b / (Int.gcd a b:Int))=0:=Int.emod_eq_zero_of_dvd (Int.dvd_trans (Int.ediv_dvd_of_dvd gd) h3);have e5:Int.gcd (a / (Int.gcd a b:Int)) (b / (Int.gcd a b:Int))=1:=Int.gcd_ediv_gcd_ediv_gcd (by omega);unfold fR;rw[e4,e5,C7 e1,C7 (show 1<=b / (Int.gcd a b:Int)by omega),C7 e2];rfl
theorem aAd(h:fR a b=true):0<=a/\a<=1000000000000/\1<=b/\b<=55440:=by
 unfold fR at h;simp only[Bool.and_eq_true,decide_eq_true_eq,beq_iff_eq]at h;obtain⟨⟨⟨⟨h1,h2⟩,h3⟩,_⟩,h5⟩:=h;exact⟨h1,h5,h2,Int.le_of_dvd (by decide) (Int.dvd_of_emod_eq_zero h3)⟩
noncomputable def six:List PyData:=[.tuple [.int 1,.int 1],.tuple [.int 1,.int 1],.tuple [.int 2,.int 1],.tuple [.int 1,.int 2],.tuple [.int 3,.int 4],.tuple [.int 0,.int 1]]
noncomputable def belows:List PyData:=[.int 1,.int 2,.int 3,.int 5,.int 7,.int 8,.int 9,.int 11,.int 12,.int 16,.int 35,.int 99,.int 720,.int 5040,.int 27720,.int 55440]
theorem ZI{d:PyData}(h:d∈belows):∃n:Int,d=.int n/\1<=n/\n ∣ 55440/\n<=55440:=by
 unfold belows at h;simp only[List.mem_cons,List.not_mem_nil,or_false]at h;rcases h with rfl|rfl|rfl|rfl|rfl|rfl|rfl|rfl|rfl|rfl|rfl|rfl|rfl|rfl|rfl|rfl<;>exact⟨_,rfl,by decide,by decide,by decide⟩
theorem aHE{r:Int}(h0:0<=r)(h1:r<6)(M:Sto):∃a b,ixF (.d (.list six)) (I r) M=some (T2 a b,M)/\fR a b=true:=by
 have cs:r=0\/r=1\/r=2\/r=3\/r=4\/r=5:=by omega
 rcases cs with rfl|rfl|rfl|rfl|rfl|rfl<;>exact⟨_,_,rfl,by decide⟩
theorem aKw(γ:Ga)(M:Sto):qU γ M=some (.d (.list six),M):=rfl
theorem aIK(γ:Ga)(M:Sto):qY γ M=some (.d (.list belows),M):=rfl
theorem aCG{x z w r:Int}(h0:0<=r)(h1:r<4)(M:Sto):∃c,ixF (.d (.list [.int x,.int y,.int z,.int w])) (I r) M=some (I c,M)/\(c=x\/c=y\/c=z\/c=w):=by
 have cs:r=0\/r=1\/r=2\/r=3:=by omega
 rcases cs with rfl|rfl|rfl|rfl
 .exact⟨x,rfl,.inl rfl⟩
 .exact⟨y,rfl,.inr (.inl rfl)⟩
 .exact⟨z,rfl,.inr (.inr (.inl rfl))⟩
 .exact⟨w,rfl,.inr (.inr (.inr rfl))⟩
theorem MV(h:Stm M i):∃a b M',dB [.c i] M=some (T2 a b,M')/\fR a b=true/\Nxt i M M':=by
 obtain⟨r,M1,e1,r0,r1,n1⟩:=fS (m:=8) h (by decide) (by decide);have s1:=n1.stm h;cases c:decide (r<6)with
 |true=>
  obtain⟨a,b,e2,w⟩:=aHE r0 (C3 c) M1;refine⟨a,b,M1,?_,w,n1⟩;simp![dB,gY,e1,c,aKw,e2]
 |false=>
  obtain⟨d,M2,e2,hd,n2⟩:=RA (ds:=belows) s1 (by decide) (by decide);obtain⟨n,rfl,b0,b1,b2⟩:=ZI hd;have s2:=n2.stm s1;obtain⟨t,M3,e3,t0,t1,n3⟩:=fS (m:=1000) s2 (by decide) (by decide);have s3:=n3.stm s2;cases c7:(r==7)with
  |false=>
   refine⟨_,_,M3,?_,HF t0 (by omega) b0 b1,(n1.trans n2).trans n3⟩;simp![dB,gY,e1,c,aIK,e2,e3,rA,c7,JQ M3 t0 b0 (wsm (by omega) (by omega))]
  |true=>
   obtain⟨u,M4,e4,u0,u1,n4⟩:=fS (m:=1000) s3 (by decide) (by decide);have s4:=n4.stm s3;obtain⟨v,M5,e5,v0,v1,n5⟩:=fS (m:=4) s4 (by decide) (by decide);obtain⟨x,e6,hx⟩:=aCG (x:=10 ^ (12:Int).toNat) (y:=10 ^ (12:Int).toNat-1) (z:=1) (w:=10 ^ (9:Int).toNat+u) v0 v1 M5;have q1:(10:Int) ^ (12:Int).toNat=1000000000000:=rfl;have q2:(10:Int) ^ (9:Int).toNat=1000000000:=rfl;have x0:0<=x/\x<=1000000000000:=by rw[q1,q2]at hx;omega
   have p1:wK 10 12=true:=by decide
   have p2:wK 10 9=true:=by decide
   have sz:(4:Nat)<=sizeLine:=by decide
   refine⟨_,_,M5,?_,HF x0.1 x0.2 b0 b1,(((n1.trans n2).trans n3).trans n4).trans n5⟩;simp![dB,gY,e1,c,aIK,e2,e3,rA,c7,p1,p2,mV,e4,sz,e5,e6,JQ M5 x0.1 b0 (wsm (by omega) (by omega))]
theorem ZA{k:Int}(k0:0<=k)(k1:k<1000):∃M',fK [.d (.list (ns.map .int)),I k] M=some (.c M.length,M')/\Stm M' M.length:=by
 have hl:gP [.d (.list (ns.map .int))] M=some (I ns.length,M):=by
  show some (I ((ns.map PyData.int).length:Nat),M)=_;rw[A8]
 have k2:k<=1000:=by omega
 have kq:=Int.mul_le_mul k2 k2 k0 (by decide);have kk:0<=k*k/\k*k<=1000000:=⟨Int.mul_nonneg k0 k0,by omega⟩;have o1:sQ k k=true:=IV (by omega);have sz:(2:Nat)<=sizeLine:=by decide
 have last:∀x y:Int,0<=x->0<=y->y<2 ^ 40->Stm (M++[.lst [I x,I y]]) M.length:=fun x y h1 h2 h3=>⟨x,y,by simp,h1,h2,h3⟩;cases c:decide (k<(ns.length:Int))with
 |false=>
  refine⟨M++[.lst [I 0,I (k*k+11)]],?_,last _ _ (by decide) (by omega) (by omega)⟩;simp![fK,gV,hl,c,o1,mV,sz]
 |true=>
  have hk:k<(ns.length:Int):=C3 c;have hlt:k.toNat<ns.length:=by omega
  have hd:(ns.map PyData.int)[k.toNat]?=some (.int ns[k.toNat]):=by rw[D5,B5 hlt];rfl
  have hx:=ixL (M:=M) hd;rw[Int.toNat_of_nonneg k0]at hx;generalize ns[k.toNat]=x at hx;have o2:sC x 2147483629=true:=iU (by decide);have p1:wK 10 18=true:=by decide
  have q0:=O7 x (b:=2147483629) (by decide);have q1:=L4 x (b:=2147483629) (by decide);have q18:(10:Int) ^ (18:Int).toNat=1000000000000000000:=rfl;cases c2:decide (x<10 ^ (18:Int).toNat)with
  |true=>
   refine⟨M++[.lst [I 0,I (x % 2147483629+k*k+1)]],?_,last _ _ (by decide) (by omega) (by omega)⟩;simp![fK,gV,hl,c,hx,o1,o2,p1,mV,c2,sz]
  |false=>
   have:=E8 c2;refine⟨M++[.lst [I x,I (x % 2147483629+k*k+1)]],?_,last _ _ (by omega) (by omega) (by omega)⟩;simp![fK,gV,hl,c,hx,o1,o2,p1,mV,c2,sz]
noncomputable def iW(x:PyData):Bool:=match aW x with
 |some [.int a,.int b]=>xG a b
 |_=>false
noncomputable def fA(x:PyData):Bool:=match aW x with
 |some [.int a,.int b]=>fR a b
 |_=>false
noncomputable def R2'(k:Bool)(p q:PyData):PyData:=if k then .list [p,q]else .tuple [p,q]
theorem aHQ(k:Bool)(a b:Int):R2' k (.int a) (.int b)=P k a b:=rfl
theorem eK(k:Bool)(p q:PyData):aW (R2' k p q)=some [p,q]:=by cases k<;>rfl
theorem tY{x:PyData}(h:cZ x 2=true):∃k p q,x=R2' k p q:=by
 obtain⟨a,b,rfl|rfl⟩:=aBn h
 .exact⟨true,a,b,rfl⟩
 .exact⟨false,a,b,rfl⟩
theorem TB{x:PyData}(h:jH x=true):∃k a b,x=P k a b:=by
 have hr:cZ x 2=true:=by
  cases e:cZ x 2 with
  |true=>rfl
  |false=>rw[BQ e]at h;cases h
 obtain⟨k,p,q,rfl⟩:=tY hr;unfold jH at h;rw[eK]at h;cases p<;>cases q<;>first|exact⟨k,_,_,rfl⟩|simp at h
theorem aEy(k:Bool)(a b:Int):iW (P k a b)=xG a b:=by cases k<;>rfl
theorem UP(k:Bool)(a b:Int):fA (P k a b)=fR a b:=by cases k<;>rfl
theorem zR{x:PyData}(h:jH x=false):iW x=false:=by
 unfold jH at h;unfold iW;split
 .rename_i a b e;rw[e]at h;dsimp only at h;unfold xG;rw[h];rfl
 .rfl
theorem LK{x:PyData}(h:jH x=false):fA x=false:=by
 unfold jH at h;unfold fA;split
 .rename_i a b e;rw[e]at h;dsimp only at h;unfold fR;rw[h];rfl
 .rfl
theorem NM(x:PyData)(M:Sto):eC [.d x] M=some (B (fA x),M):=by
 cases h:jH x with
 |false=>
  rw[LK h];have e:cN [.d x] M=some (B false,M):=by simp![cN,eJ,eB,h]
  simp![eC,iJ,e]
 |true=>
  obtain⟨k,a,b,rfl⟩:=TB h;rw[UP];exact OJ k a b M
theorem cE(x:PyData)(M:Sto):fO [.d x] M=some (B (iC x),M):=by cases x<;>rfl
theorem OX{x:PyData}(h:cZ x 2=false):iW x=false:=zR (BQ h)
theorem g_C(k:Bool)(p q:PyData)(M:Sto):iF [some (.d (R2' k p q))] M=some (.d (.list [.bool (fD p),.bool (fD q)]),M):=by
 cases k<;>cases p<;>cases q<;>rfl
theorem aJF(a b:Bool)(M:Sto):CP [.d (.list [.bool a,.bool b])] M=some (B (a&&(b&&true)),M):=rfl
theorem aJq(k:Bool)(p q:PyData)(M:Sto):gP [.d (R2' k p q)] M=some (I 2,M):=by cases k<;>rfl
theorem aAy(k:Bool)(p q:PyData):iC (R2' k p q)=true:=by cases k<;>rfl
theorem AI(x:PyData)(M:Sto)(ho:oks x=true):bS [.d x] M=some (B (iW x),M):=by
 cases hr:cZ x 2 with
 |false=>
  rw[OX hr];cases hi:iC x with
  |false=>simp![bS,cJ,cE,hi]
  |true=>
   have key:∀ds:List PyData,aW x=some ds->((ds.length:Int)==2)=false/\gP [.d x] M=some (I ds.length,M):=fun ds e=>by
    unfold cZ at hr;rw[e]at hr;refine⟨hr,?_⟩;unfold gP;dsimp only;rw[e];rfl
   obtain⟨ds,e⟩:∃ds,aW x=some ds:=by cases x<;>first|exact⟨_,rfl⟩|(simp[iC]at hi)
   obtain⟨h1,h2⟩:=key ds e;simp![bS,cJ,cE,hi,h2,yZ,h1]
 |true=>
  obtain⟨k,p,q,rfl⟩:=tY hr;have h2:((2:Int)==2)=true:=rfl;cases hw:(fD p&&(fD q&&true))with
  |false=>
   have e:iW (R2' k p q)=false:=by
    unfold iW;rw[eK];cases p<;>cases q<;>first|rfl|(simp[fD]at hw)
   rw[e];simp![bS,cJ,cE,aAy,aJq,yZ,h2,g_C,aJF,hw]
  |true=>
   obtain⟨a,rfl⟩:∃a,p=.int a:=by cases p<;>first|exact⟨_,rfl⟩|(simp[fD]at hw)
   obtain⟨b,rfl⟩:∃b,q=.int b:=by cases q<;>first|exact⟨_,rfl⟩|(simp[fD]at hw)
   rw[aHQ,aEy];refine hJ k a b M ?_
   have hb:b.natAbs<2 ^ 1900:=by
    have:(oks (.int a)&&(oks (.int b)&&true))=true:=by cases k<;>exact ho
    simp only[Bool.and_true,Bool.and_eq_true]at this;exact C3 this.2
   exact B8 hb (Y0 (by decide) (by decide))
theorem FA{x:PyData}(h:iW x=false):fA x=false:=by
 unfold iW at h;unfold fA;split
 .rename_i a b e;rw[e]at h;dsimp only at h;rw[YJ,h];rfl
 .rfl
theorem WH{x:PyData}(h:iW x=true):∃k a b,x=P k a b:=by
 refine TB ?_;cases e:jH x with
 |true=>rfl
 |false=>rw[zR e]at h;cases h
theorem aHF{k:Bool}(ho:oks (P k a b)=true):b.natAbs<rH:=by
 have hb:b.natAbs<2 ^ 1900:=by
  have:(oks (.int a)&&(oks (.int b)&&true))=true:=by cases k<;>exact ho
  simp only[Bool.and_true,Bool.and_eq_true]at this;exact C3 this.2
 exact B8 hb (Y0 (by decide) (by decide))
theorem kQ(x:PyData)(M:Sto)(ho:oks x=true):cI [.d x] M=some (B (fA x),M):=by
 cases h:iW x with
 |false=>
  rw[FA h];simp![cI,dN,AI x M ho,h]
 |true=>
  obtain⟨k,a,b,rfl⟩:=WH h;rw[UP];exact AE k a b M (aHF ho)
theorem aKy{s:Str}:eqX true (.d (.str s)) (.d (.str s)) M=some (B false,M):=by
 show some (B (!(s==s)),M)=_;simp
theorem tT{ds:List PyData}(h:∀d∈ds,oks d=true):eW ds=true:=by
 induction ds with
 |nil=>rfl
 |cons d ds ih=>
  show(oks d&&eW ds)=true;rw[h d B3,ih fun e he=>h e (B1 _ he)];rfl
theorem BI{w k:Nat}:∀{ds:List PyData},(∀d∈ds,wt d<=w)->ds.length<=k->kB ds<=k*(w+2)
 |[]=>fun _ _=>D6 _
 |d::ds=>fun h hl=>by
  cases k with
  |zero=>simp at hl
  |succ k=>
   have h1:=h d B3;have h2:=BI (w:=w) (k:=k) (fun e he=>h e (B1 _ he)) (by simpa using hl);show wt d+2+kB ds<=_;rw[Nat.succ_mul];omega
theorem rX{m:Nat}:∀{ds:List PyData},(∀d∈ds,d.depth<=m)->PyData.depthAll ds<=m
 |[]=>fun _=>D6 _
 |d::ds=>fun h=>by
  show max d.depth (PyData.depthAll ds)<=m;exact Nat.max_le.mpr ⟨h d B3,rX fun e he=>h e (B1 _ he)⟩
theorem Fit.list{k:Nat}{ds:List PyData}(h:∀d∈ds,Fit w m d)(hl:ds.length<=k):Fit (k*(w+2)+3) (m+1) (.list ds):=
 ⟨tT fun d hd=>(h d hd).ok,Y1 (BI (fun d hd=>(h d hd).wt) hl) 3,Y1 (rX fun d hd=>(h d hd).dp) 1⟩
theorem Fit.tuple{k:Nat}{ds:List PyData}(h:∀d∈ds,Fit w m d)(hl:ds.length<=k):Fit (k*(w+2)+3) (m+1) (.tuple ds):=
 ⟨tT fun d hd=>(h d hd).ok,Y1 (BI (fun d hd=>(h d hd).wt) hl) 3,Y1 (rX fun d hd=>(h d hd).dp) 1⟩
theorem Fit.int{i:Int}(h:i.natAbs<2 ^ 1900):Fit 2000 0 (.int i):=⟨C7 h,A7 _,A7 _⟩
theorem yM{i:Int}(h:i.natAbs<2 ^ 200):i.natAbs<2 ^ 1900:=B8 h (Y0 (by decide) (by decide))
theorem Fit.dictA{d:PyData}(f:Fit w m d):Fit (w+2050) (m+1) (.dict [(.int 0,d),(.str "a",.none)]):=by
 refine⟨?_,?_,?_⟩
 .show((oks (.int 0)&&oks d&&(oks (.str "a")&&oks .none&&true)))=true;rw[f.ok];decide +kernel
 .have h1:=f.wt;show(wt (.int 0)+wt d+4+(wt (.str "a")+wt .none+4+0))+3<=_;have e1:wt (.int 0)=2000:=rfl;have e2:wt (.str "a")=3:=by decide +kernel
  have e3:wt PyData.none=4:=rfl;omega
 .have h1:=f.dp;show max (max 0 d.depth) (max (max 0 0) 0)+1<=_;omega
theorem pG:∀ds:List PyData,iQ (ds.map .d)=some ds
 |[]=>rfl
 |d::ds=>by
  show(iQ (ds.map .d)).map (d::·)=_;rw[pG ds];rfl
theorem JU{ds:List PyData}{r:Int}(h0:0<=r)(h1:r<ds.length)(M:Sto):∃d∈ds,ixF (.d (.list ds)) (I r) M=some (.d d,M):=by
 have hlt:r.toNat<ds.length:=by omega
 have hd:ds[r.toNat]?=some ds[r.toNat]:=B5 hlt;have hx:=ixL (M:=M) hd;rw[Int.toNat_of_nonneg h0]at hx;exact⟨_,L8 hlt,hx⟩
theorem zM{i:Int}:eqX false (I i) (I j) M=some (B (i==j),M):=rfl
noncomputable def Wn:Nat->Nat
 |0=>2000
 |k+1=>3*(Wn k+2)+3+2050
theorem aFt:∀k,2000<=Wn k
 |0=>A7 _
 |k+1=>by
  have:=aFt k;show 2000<=3*(Wn k+2)+3+2050;omega
noncomputable def HS:List PyData:=[.int 0,.int 1,.int 2,.int 3,.int (-1),.int 40,.int 55440]
noncomputable def JC:List PyData:=[.bool true,.bool false,.none]
noncomputable def SZ:List PyData:=[.str "",.str "1",.str "1/2",.str "place",.str "tie",.str "ab"]
theorem aIG(γ:Ga)(M:Sto):wI γ M=some (.d (.list HS),M):=rfl
theorem aGr(γ:Ga)(M:Sto):xQ γ M=some (.d (.list JC),M):=rfl
theorem aHf(γ:Ga)(M:Sto):xM γ M=some (.d (.list SZ),M):=rfl
theorem RK:∀d∈HS,Fit 2000 0 d:=by
 intro d hd;unfold HS at hd;simp only[List.mem_cons,List.not_mem_nil,or_false]at hd;rcases hd with rfl|rfl|rfl|rfl|rfl|rfl|rfl<;>exact Fit.int (yM (by decide))
theorem QF:∀d∈JC,Fit 2000 0 d:=by
 intro d hd;unfold JC at hd;simp only[List.mem_cons,List.not_mem_nil,or_false]at hd;rcases hd with rfl|rfl|rfl<;>exact⟨rfl,by decide,A7 _⟩
theorem VP:∀d∈SZ,Fit 2000 0 d:=by
 intro d hd;unfold SZ at hd;simp only[List.mem_cons,List.not_mem_nil,or_false]at hd;rcases hd with rfl|rfl|rfl|rfl|rfl|rfl<;>exact⟨rfl,by decide +kernel,A7 _⟩
theorem zH:∀ns:List Int,PyData.canLayAll0 (ns.map .int)=true
 |[]=>rfl
 |n::ns=>by show(true&&PyData.canLayAll0 (ns.map .int))=true;rw[zH ns];rfl
theorem BW:∀ns:List Int,PyData.depthAll (ns.map .int)=0
 |[]=>rfl
 |n::ns=>by show max 0 (PyData.depthAll (ns.map .int))=0;rw[BW ns];rfl
theorem shaped_ints(ns:List Int):SeqAt.shaped (.list (ns.map .int))=true:=by
 unfold SeqAt.shaped;have e1:PyData.canLay0 (.list (ns.map .int))=true:=zH ns;have e2:PyData.depth (.list (ns.map .int))=1:=by show PyData.depthAll (ns.map .int)+1=1;rw[BW]
 rw[e1,e2];rfl
theorem ne_nil(ns:List Int)(M:Sto):eqX true (.d (.list (ns.map .int))) (.d (.list [])) M=some (B (!ns.isEmpty),M):=by
 have e1:=shaped_ints ns;have e2:SeqAt.shaped (.list [])=true:=rfl;show(if (SeqAt.shaped (.list (ns.map .int))&&SeqAt.shaped (.list []))=true then some (B (!PyData.eqv (.list (ns.map .int)) (.list [])),M)else none)=_;rw[e1,e2];cases ns<;>rfl
noncomputable abbrev Sc(ns:List Int):CD:=.d (.list (ns.map .int))
noncomputable def Few(d:PyData):Prop:=∀l,aW d=some l->l.length<=3
noncomputable def Kp(i:Nat)(M M':Sto):Prop:=∀q c,q≠i->M[q]?=some c->M'[q]?=some c
theorem Kp.refl:Kp i M M:=fun _ _ _ h=>h
theorem Kp.trans{M1 M2:Sto}(a:Kp i M M1)(b:Kp i M1 M2):Kp i M M2:=fun q c n h=>b q c n (a q c n h)
theorem Nxt.kp(n:Nxt i M M'):Kp i M M':=by
 obtain⟨a,b,rfl,_⟩:=n;intro q c h e;rw[D4 (F4 h)];exact e
theorem Kp.app:Kp i M (M++L):=fun q c _ e=>by
 rw[C1 (List.getElem?_eq_some_iff.mp e).1];exact e
noncomputable def zB(f:Option (CD×Sto))(M:Sto)(i w m:Nat):Prop:=∃d M',f=some (.d d,M')/\(Fit w m d/\Few d)/\Stm M' i/\Kp i M M'
theorem QT{ds:List PyData}(h:ds.all (fun d=>(aW d).isNone)=true):∀d∈ds,Few d:=fun d hd l e=>by
 have:=List.all_eq_true.mp h d hd;rw[e]at this;cases this
theorem NZ{self:FN}{i w m:Nat}{S:CD}{k:Int}(hself:∀M,Stm M i->zB (self [.c i,S,I (k-1)] M) M i w m):∀(xs:List CD)(s:Option CD)(M:Sto),Stm M i->
 ∃(ds:List PyData)(M':Sto),lcF (hName 3) iD (aK self (aB (aD 0) (aB (aD 1) (aB (fOp pK (aD 2) (fC (.int 1))) aI)))) xs [some (.c i),some S,some (I k),s] M=some (ds.map .d,M')/\ds.length=xs.length/\(∀d∈ds,Fit w m d)/\Stm M' i/\Kp i M M'
 |[]=>fun s M h=>⟨[],M,rfl,rfl,by simp,h,.refl⟩
 |x::xs=>fun s M h=>by
  obtain⟨d,M1,e1,f1,s1,k1⟩:=hself M h;obtain⟨ds,M2,e2,l2,f2,s2,k2⟩:=NZ hself xs (some x) M1 s1;refine⟨d::ds,M2,?_,by simp[l2],?_,s2,k1.trans k2⟩
  .show(Option.bind (self [.c i,S,I (k-1)] M) fun r=>(lcF (hName 3) iD (aK self (aB (aD 0) (aB (aD 1) (aB (fOp pK (aD 2) (fC (.int 1))) aI)))) xs [some (.c i),some S,some (I k),some x] r.2).bind fun q=>some (r.1::q.1,q.2))=_;rw[e1,A1];dsimp only;rw[e2];rfl
  .intro y hy;rcases List.mem_cons.mp hy with rfl|hy
   .exact f1.1
   .exact f2 y hy
theorem aAB{S:CD}{k:Int}{a b:Option CD}(hself:∀M,Stm M i->zB (self [.c i,S,I (k-1)] M) M i w m){M:Sto}(h:Stm M i):
 ∃(ds:List PyData)(M':Sto),xI self [some (.c i),some S,some (I k),a,b] M=some (.d (.list ds),M')/\ds.length<=3/\(∀d∈ds,Fit w m d)/\Stm M' i/\Kp i M M':=by
 obtain⟨r,M1,e1,r0,r1,n1⟩:=fS (m:=4) h (by decide) (by decide);obtain⟨ds,M2,e2,l2,f2,s2,k2⟩:=NZ hself (jP 0 r.toNat) none M1 (n1.stm h);have hlen:(jP 0 r.toNat).length=r.toNat:=by simp[jP]
 have hl:ds.length<=3:=by rw[l2,hlen];omega
 have sz:(3:Nat)<=sizeLine:=by decide
 refine⟨ds,M2,?_,hl,f2,s2,n1.kp.trans k2⟩
 have sm:fV r=true:=by
  unfold fV;rw[C7 (show -(2 ^ 62)<=r by omega),C7 (show r<2 ^ 62 by omega)];rfl
 have e3:kH (aB (aK aX (aB (aD 0) (aB (fC (.int 4)) aI))) aI) [some (.c i),some S,some (I k),a,b] M=some (jP 0 r.toNat,M1):=by
  simp![kH,e1,sm]
 show(Option.bind (pE _ _ _ _ _ _ _) _)=_
 have e4:pE [some 0,some 1,some 2,none] (kH (aB (aK aX (aB (aD 0) (aB (fC (.int 4)) aI))) aI)) (hName 3) iD (aK self (aB (aD 0) (aB (aD 1) (aB (fOp pK (aD 2) (fC (.int 1))) aI)))) [some (.c i),some S,some (I k),a,b] M=some (ds.map .d,M2):=by
  unfold pE;rw[e3,A1];dsimp only;rw[A3 (by rw[hlen];omega)];exact e2
 rw[e4,A1];dsimp only;rw[pG,A1,A3 (by omega)]
theorem aCy{a b c e:Option CD}{d:PyData}:NF [((fC (.int 0)),(aD 4)),((fC (.str "a")),(fC .none))] [a,b,c,e,some (.d d)] M=some (.d (.dict [(.int 0,d),(.str "a",.none)]),(M++[Cell.dk []]).set M.length Cell.dead):=by
 have e1:HU [((fC (.int 0)),(aD 4)),((fC (.str "a")),(fC .none))] [a,b,c,e,some (.d d)] (M++[.dk []])=some ([(I 0,.d d),(.d (.str "a"),.d .none)],M++[.dk []]):=rfl;have e2:(M++[Cell.dk []])[M.length]?=some (.dk []):=by simp
 have nd:(([(.inl 0,d),(.inr "a",PyData.none)]:List (Key×PyData)).map (·.1)).Nodup:=by
  show([.inl 0,.inr "a"]:List Key).Nodup;simp
 unfold NF;rw[e1,A1];dsimp only;rw[e2];have e3:keyed [(I 0,.d d),(.d (.str "a"),.d .none)]=some [(.inl 0,d),(.inr "a",.none)]:=rfl;rw[e3,A1,A3 ⟨(by show 2<=15;decide),nd⟩];rfl
theorem aCN:Kp i M ((M++[Cell.dk []]).set M.length Cell.dead):=fun q c _ e=>by
 have lt:=(List.getElem?_eq_some_iff.mp e).1;rw[D4 (by omega),C1 lt];exact e
theorem aBU(h:Stm M i):Stm ((M++[Cell.dk []]).set M.length Cell.dead) i:=by
 have hlt:=h.lt;obtain⟨a,b,h1,r⟩:=h;refine⟨a,b,?_,r⟩;rw[D4 (by omega),C1 hlt];exact h1
theorem aCR(n:Int)(ns:List Int)(M:Sto):ixF (Sc (n::ns)) (I 0) M=some (I n,M):=ixL (ds:=(n::ns).map .int) (j:=0) (d:=.int n) rfl
theorem int_bool(b:Bool)(M:Sto):IL [B b] M=some (I (if b then 1 else 0),M):=rfl
theorem aHX(ds:List PyData)(M:Sto):eY [.d (.list ds)] M=some (.d (.tuple ds),M):=rfl
theorem aAW{w m:Nat}{k:Nat}{d:PyData}(f:Fit 2000 0 d):Fit (Wn k) (2*k) d:=f.mono (aFt k) (D6 _)
theorem ZC(k:Nat)(self:FN)(hself:k≠0->∀M,Stm M i->zB (self [.c i,Sc ns,I ((k:Int)-1)] M) M i (Wn (k-1)) (2*(k-1))){M:Sto}(h:Stm M i):
 zB (fnF 3 5 (dG self) [.c i,Sc ns,I (k:Int)] M) M i (Wn k) (2*k):=by
 have o3:∀b:Bool,sQ 3 (if b=true then 1 else 0)=true:=fun b=>aCP (by decide);have sz:(0:Nat)<=sizeLine:=D6 _;have p1:wK 10 40=true:=by decide
 have p2:wK 10 39=true:=by decide
 obtain⟨r,M1,e1,r0,r1,n1⟩:∃r M1,aX [.c i,I (9-3*(if ((k:Int)==0)=true then 1 else 0))] M=some (I r,M1)/\0<=r/\r<9-3*(if ((k:Int)==0)=true then 1 else 0)/\Nxt i M M1:=by
  cases ((k:Int)==0)with
  |true=>exact fS (m:=9-3*1) h (by decide) (by decide)
  |false=>exact fS (m:=9-3*0) h (by decide) (by decide)
 have s1:=n1.stm h;cases c0:(r==0)with
 |true=>
  cases ns with
  |nil=>
   refine⟨.int (-1),M1,?_,⟨aAW (w:=0) (m:=0) (Fit.int (yM (by decide))),fun _ z=>nomatch z⟩,s1,n1.kp⟩;have ne:=ne_nil [] M1;simp![dG,FP,zM,int_bool,o3,e1,c0,sz,ne];rfl
  |cons n ns=>
   have q:(10:Int) ^ (40:Int).toNat=10 ^ 40:=rfl;have q':(10:Int) ^ (39:Int).toNat=10 ^ 39:=rfl;have m1:sC n (10 ^ (40:Int).toNat)=true:=iU (by decide);have b0:=O7 n (b:=10 ^ (40:Int).toNat) (by decide);have b1:=L4 n (b:=10 ^ (40:Int).toNat) (by decide);refine⟨.int (n % 10 ^ (40:Int).toNat-10 ^ (39:Int).toNat),M1,?_,⟨aAW (w:=0) (m:=0) (Fit.int (yM (by rw[q,q']at *;omega))),fun _ z=>nomatch z⟩,s1,n1.kp⟩;have ne:=ne_nil (n::ns) M1;have em:(!(n::ns).isEmpty)=true:=rfl;simp![dG,zM,int_bool,o3,e1,c0,sz,ne,em,aCR,p1,p2,m1]
 |false=>
  cases c1:(r==1)with
  |true=>
   obtain⟨t,M2,e2,t0,t1,n2⟩:=fS (m:=7) s1 (by decide) (by decide);obtain⟨d,hd,e3⟩:=JU (ds:=HS) t0 t1 M2;refine⟨d,M2,?_,⟨aAW (w:=0) (m:=0) (RK d hd),QT (by decide) d hd⟩,n2.stm s1,n1.kp.trans n2.kp⟩;simp![dG,zM,int_bool,o3,e1,c0,c1,e2,aIG,e3]
  |false=>
   cases c2:(r==2)with
   |true=>
    obtain⟨t,M2,e2,t0,t1,n2⟩:=fS (m:=3) s1 (by decide) (by decide);obtain⟨d,hd,e3⟩:=JU (ds:=JC) t0 t1 M2;refine⟨d,M2,?_,⟨aAW (w:=0) (m:=0) (QF d hd),QT (by decide) d hd⟩,n2.stm s1,n1.kp.trans n2.kp⟩;simp![dG,zM,int_bool,o3,e1,c0,c1,c2,e2,aGr,e3]
   |false=>
    cases c6:decide (r<6)with
    |true=>
     obtain⟨t,M2,e2,t0,t1,n2⟩:=fS (m:=6) s1 (by decide) (by decide);obtain⟨d,hd,e3⟩:=JU (ds:=SZ) t0 t1 M2;refine⟨d,M2,?_,⟨aAW (w:=0) (m:=0) (VP d hd),QT (by decide) d hd⟩,n2.stm s1,n1.kp.trans n2.kp⟩;simp![dG,zM,int_bool,o3,e1,c0,c1,c2,c6,e2,aHf,e3]
    |false=>
     have r6:6<=r:=by have:=E8 c6;omega
     have k0:k≠0:=by
      intro z;subst z;have:r<9-3*(if (((0:Nat):Int)==0)=true then 1 else 0):=r1;simp at this;omega
     obtain⟨ds,M2,e2,l2,f2,s2,k2⟩:=aAB (S:=Sc ns) (k:=(k:Int)) (a:=some (I r)) (b:=none) (hself k0) s1;obtain⟨k',rfl⟩:∃k',k=k'+1:=⟨k-1,by omega⟩;have f2':∀d∈ds,Fit (Wn k') (2*k') d:=f2;have w1:3*(Wn k'+2)+3<=Wn (k'+1):=S7 _ _;have d1:2*k'+1<=2*(k'+1):=by omega
     cases c7:(r==6)with
     |true=>
      refine⟨.tuple ds,M2,?_,⟨(Fit.tuple f2' l2).mono w1 d1,fun l z=>by cases z;exact l2⟩,s2,n1.kp.trans k2⟩;simp![dG,zM,int_bool,o3,e1,c0,c1,c2,c6,e2,c7,aHX]
     |false=>
      cases c8:(r==7)with
      |true=>
       refine⟨.list ds,M2,?_,⟨(Fit.list f2' l2).mono w1 d1,fun l z=>by cases z;exact l2⟩,s2,n1.kp.trans k2⟩;simp![dG,zM,int_bool,o3,e1,c0,c1,c2,c6,e2,c7,c8]
      |false=>
       have fd:=Fit.dictA (Fit.list f2' l2);refine⟨_,_,?_,⟨fd.mono (A7 _) (by omega),fun _ z=>nomatch z⟩,aBU s2,(n1.kp.trans k2).trans aCN⟩;have e3:=aCy (a:=some (.c i)) (b:=some (Sc ns)) (c:=some (I ((k'+1:Nat):Int))) (e:=some (I r)) (d:=.list ds) (M:=M2);simp![dG,zM,int_bool,o3,e1,c0,c1,c2,c6,e2,c7,c8,e3]
theorem ZD{ns:List Int}{i:Nat}:∀(n k:Nat),k<n->∀{M:Sto},Stm M i->zB (eZ n [.c i,Sc ns,I (k:Int)] M) M i (Wn k) (2*k)
 |0,_,h,_,_=>by omega
 |n+1,k,h,M,hs=>by
  show zB (fnF 3 5 (dG (eZ n)) [.c i,Sc ns,I (k:Int)] M) M i (Wn k) (2*k);refine ZC k _ (fun k0 M' hs'=>?_) hs;have:=ZD (ns:=ns) n (k-1) (by omega) hs';have e:((k-1:Nat):Int)=(k:Int)-1:=by omega
  rw[e]at this;exact this
theorem cat_tup(xs ys:List PyData)(M:Sto)(h:xs.length+ys.length<=sizeLine):dP (.d (.tuple xs)) (.d (.tuple ys)) M=some (.d (.tuple (xs++ys)),M):=by
 cases xs with
 |nil=>rfl
 |cons x xs=>
  show(if (x::xs)≠[]/\(x::xs).length+ys.length<=sizeLine then some (CD.d (.tuple ((x::xs)++ys)),M)else none)=_;rw[A3 ⟨by simp,h⟩]
theorem aDE{α:Type}{xs:List α}{lo hi:Option Int}{x:α}(h:x∈pD xs lo hi):x∈xs:=List.mem_of_mem_drop (List.mem_of_mem_take h)
theorem aCC{α:Type}(xs:List α)(lo hi:Option Int):(pD xs lo hi).length<=xs.length:=by
 unfold pD;rw[J6,J7];omega
theorem aBX(i:Int):asI (I i)=some i:=rfl
theorem Rds.int{y:CD}(h:Rds M y (.int a)):y=I a:=by
 cases y with
 |d z=>rw[Rds,eP]at h;cases h;rfl
 |c i=>
  unfold Rds snap at h;cases e:M[i]? with
  |none=>rw[e]at h;cases h
  |some c=>
   rw[e]at h;cases c with
   |lst xs=>obtain⟨es,_,h⟩:=aG (show(cM 4 M xs).bind _=_ from h);cases h
   |_=>cases h
 |f kvs=>unfold Rds snap at h;cases h
 |t xs=>unfold Rds snap at h;obtain⟨es,_,h⟩:=aG h;cases h
theorem Rds.at{d:PyData}{j:Nat}(h:Rds M x d)(hd:aW d=some ds)(hj:ds[j]?=some (.int a)):ixF x (I j) M=some (I a,M):=by
 obtain⟨y,h1,h2⟩:=(h.items hd).2 j _ hj;rw[h1,h2.int]
theorem rP:dU [I a] M=some (B true,M):=iE _ _
theorem MJ{d:PyData}(h:Rds M x d)(hd:aW d=some [.int a,.int b])(hw:fR a b=true):eC [x] M=some (B true,M):=by
 unfold fR at hw;simp only[Bool.and_eq_true,decide_eq_true_eq]at hw;obtain⟨⟨⟨⟨a0,b1⟩,b2⟩,b3⟩,a1⟩:=hw;have i0:ixF x (I 0) M=some (I a,M):=h.at hd (j:=0) rfl;have i1:ixF x (I 1) M=some (I b,M):=h.at hd (j:=1) rfl;have r2:cW [x,I 2] M=some (B true,M):=kJ 2 h hd;have g0:(decide (a>=0))=true:=by simpa using a0
 have g1:(decide (b>=1))=true:=by simpa using b1
 have n1:bG [x] M=some (B true,M):=by
  simp![bG,bX,r2,i0,i1,rP,g0,g1]
 have p1:cN [x] M=some (B true,M):=by
  have mo:sC 55440 b=true:=iU (by omega);have cm:=ND (a:=a) (b:=b) M a0 (by omega)
  have b3':(((Int.gcd a b:Nat):Int)==1)=true:=by
   have:Int.gcd a b=1:=by simpa using b3
   rw[this];rfl
  simp![cN,eJ,n1,i0,i1,mo,rA,b2,cm,b3']
 have l1:(decide (a<=1000000000000))=true:=by simpa using a1
 simp![eC,iJ,p1,i0,l1]
noncomputable def aKz(n:Int)(d:PyData)(i j a b:Int):Prop:=∃w,aW d=some [.int i,.int j,w]/\aW w=some [.int a,.int b]/\fR a b=true/\0<=i/\i<j/\j<n
theorem KW{d:PyData}{i:Int}(h:Rds M x d)(t:aKz n d i j a b):jD [I n,x] M=some (B true,M):=by
 obtain⟨w,hd,hw,hv,i0,ij,jn⟩:=t;have x0:ixF x (I 0) M=some (I i,M):=h.at hd (j:=0) rfl;have x1:ixF x (I 1) M=some (I j,M):=h.at hd (j:=1) rfl;obtain⟨y,x2,hy⟩:=(h.items hd).2 2 w rfl;have x2:ixF x (I 2) M=some (y,M):=x2;have r3:cW [x,I 3] M=some (B true,M):=kJ 3 h hd
 have pl:∀k:Int,0<=k->k<n->eU [I n,I k] M=some (B true,M):=fun k k0 k1=>by
  have c0:decide (0<=k)=true:=C7 k0;have c1:decide (k<n)=true:=C7 k1;simp![eU,mH,rP,c0,c1]
 have ne:(!(i==j))=true:=by simp;omega
 have u:bT [I n,I i,I j] M=some (B true,M):=by
  simp![bT,cU,pl i i0 (by omega),pl j (by omega) jn,yZ,ne]
 have lt:decide (i<j)=true:=C7 ij
 have bt:bA [I n,x] M=some (B true,M):=by
  simp![bA,cT,r3,x0,x1,u,lt]
 have wt:=MJ hy hw hv;simp![jD,oR,bt,x2,wt]
theorem tW{c:Cell}(h:M[i]?=some c):(M++L)[i]?=some c:=by
 rw[C1 (List.getElem?_eq_some_iff.mp h).1];exact h
theorem dF{c:Cell}:(M++[c])[M.length]?=some c:=by rw[C6 (A7 _),J5];rfl
structure Tie where
 i:Int
 j:Int
 a:Int
 b:Int
deriving DecidableEq
noncomputable def Tie.key(t:Tie):List Key:=[.inl t.i,.inl t.j]
noncomputable def Tie.val(t:Tie):CD:=.d (.tuple [.int t.a,.int t.b])
noncomputable def bB(ts:List Tie):List (List Key×CD):=ts.map fun t=>(t.key,t.val)
theorem aEE{ts:List Tie}{t:Tie}(h:∀s∈ts,s.key≠t.key):lkC (bB ts) t.key=none:=by
 unfold lkC bB;rw[List.find?_map];have:List.find? ((fun kv=>decide (kv.1=t.key)) ∘ fun s:Tie=>(s.key,s.val)) ts=none:=List.find?_eq_none.mpr fun s hs=>by simpa using h s hs
 rw[this];rfl
theorem RQ{ts:List Tie}{t:Tie}(h:∀s∈ts,s.key≠t.key):putD (bB ts) t.key t.val=bB (ts++[t]):=by
 unfold putD
 have:((bB ts).any fun kv=>decide (kv.1=t.key))=false:=by
  rw[bB,List.any_map];exact List.any_eq_false.mpr fun s hs=>by simpa using h s hs
 rw[this,A5 A4];unfold bB;rw[D3];rfl
theorem sz{n:Nat}(hn:n<=1000):n<=sizeLine:=by rw[E1];exact C8 hn (by decide)
theorem z1:(1:Nat)<=sizeLine:=sz (by decide)
theorem z2:(2:Nat)<=sizeLine:=sz (by decide)
theorem z3:(3:Nat)<=sizeLine:=sz (by decide)
theorem z4:(4:Nat)<=sizeLine:=sz (by decide)
theorem z8:(8:Nat)<=sizeLine:=sz (by decide)
noncomputable def TOk(n:Int)(t:Tie):Prop:=fR t.a t.b=true/\0<=t.i/\t.i<t.j/\t.j<n
noncomputable def tK(M:Sto)(n:Int)(z:CD)(t:Tie):Prop:=TOk n t/\((∃w,z=.d (.tuple [.int t.i,.int t.j,w])/\aW w=some [.int t.a,.int t.b])\/∃m,z=.t [.inl (.int t.i),.inl (.int t.j),.inr m]/\M[m]?=some (.lst [I t.a,I t.b]))
theorem tK.app{t:Tie}(h:tK M n z t):tK (M++L) n z t:=⟨h.1,h.2.imp id fun⟨m,a,b⟩=>⟨m,a,tW b⟩⟩
theorem aIP{i:Int}(h:M[m]?=some (.lst [I a,I b])):Rds M (.t [.inl (.int i),.inl (.int j),.inr m]) (.tuple [.int i,.int j,.list [.int a,.int b]]):=by
 unfold Rds snap;simp only[List.map_cons,List.map_nil,cdA,cM,eP,Option.bind_some];unfold snap;rw[h];simp only[cM,eP,Option.bind_some]
theorem aKB{w:PyData}(h:aW w=some [.int a,.int b])(M:Sto):eY [.d w] M=some (.d (.tuple [.int a,.int b]),M):=by
 cases w<;>first|(cases h;rfl)|cases h
theorem tK.facts{t:Tie}(h:tK M n z t):jD [I n,z] M=some (B true,M)/\ixF z (I 0) M=some (I t.i,M)/\ixF z (I 1) M=some (I t.j,M)/\∃y,ixF z (I 2) M=some (y,M)/\eY [y] M=some (.d (.tuple [.int t.a,.int t.b]),M):=by
 obtain⟨⟨hw,i0,ij,jn⟩,⟨w,rfl,hi⟩|⟨m,rfl,hm⟩⟩:=h
 .exact⟨KW Rds.d ⟨w,rfl,hi,hw,i0,ij,jn⟩,rfl,rfl,_,rfl,aKB hi M⟩
 .refine⟨KW (aIP hm) ⟨.list [.int t.a,.int t.b],rfl,rfl,hw,i0,ij,jn⟩,rfl,rfl,.c m,rfl,?_⟩;simp only[eY,hm];rfl
theorem HA{x k:CD}{ts:List Tie}{t:Tie}(h:tK M n z t)(hD:M[c]?=some (.dt (bB ts)))(nk:∀s∈ts,s.key≠t.key)(hl:ts.length<1000):
 cA [some (I n),some x,some (.c c),some k,some z] M=some (.o (.nx [some (I n),some x,some (.c c),some k,some z]),M.set c (.dt (bB (ts++[t])))):=by
 obtain⟨ti,x0,x1,y,x2,tu⟩:=h.facts;have at_:atD M (.c c) (.inr t.key)=some none:=by simp only[atD,hD,aEE nk]
 have len:(bB ts).length<sizeLine:=by unfold bB;rw[A8,E1];omega
 have st:NR M (.c c) (.inr t.key) (.d (.tuple [.int t.a,.int t.b]))=some (M.set c (.dt (bB (ts++[t])))):=by
  have pn:putD (bB ts) t.key (.d (.tuple [.int t.a,.int t.b]))=bB (ts++[t]):=RQ nk;simp only[NR,hD,if_pos len,pn]
 have kk:keysOf [I t.i,I t.j]=some t.key:=rfl;have l2:(Tie.key t).length<=sizeLine:=sz (show 2<=1000 by decide);simp![cA,ti,aBC,EZ,x0,x1,x2,kk,if_pos l2,at_,JN,tu,st,Option.isSome_none]
theorem HY{c:Cell}:(M++[c]).set M.length c'=M++[c']:=by
 rw[List.set_append_right _ _ (A7 _),J5];rfl
theorem GU{M:Sto}{n:Int}{x:CD}{P:Sto->Prop}(hP:∀L,P (M++L)):∀{zs:List CD}{us:List Tie}(ts:List Tie)(k:Nat)(g3 g4:Option CD),Paired (tK M n) zs us->((ts++us).map Tie.key).Nodup->ts.length+us.length<1000->
 ∃g3' g4',jG P (bL (hName 3) (bL (hName 4) kO)) cA k zs [some (I n),some x,some (.c M.length),g3,g4] (M++[.dt (bB ts)])=some (.o (.nx [some (I n),some x,some (.c M.length),g3',g4']),M++[.dt (bB (ts++us))])
 |_,_,ts,k,g3,g4,.nil=>fun _ _=>⟨g3,g4,by unfold jG;rw[A3 (hP _),C5]⟩
 |z::zs,t::us,ts,k,g3,g4,.cons r1 r2=>fun nd hl=>by
  have nk:∀s∈ts,s.key≠t.key:=fun s hs q=>by
   rw[D3,O8]at nd;exact nd.2.2 _ (J4 hs) _ (by rw[C4];exact B3) q
  have hl':ts.length<1000:=by omega
  have turn:=HA (x:=x) (k:=I (k:Nat)) (r1.app (L:=[.dt (bB ts)])) dF nk hl';rw[HY]at turn;obtain⟨a,b,ih⟩:=GU (x:=x) hP (ts++[t]) (k+1) (some (I (k:Nat))) (some z) r2 (by rw[B2];exact nd) (by rw[A9];simp only[List.length_cons,List.length_nil]at hl ⊢;omega);refine⟨a,b,?_⟩;unfold jG;rw[A3 (hP _)];have g1:bL (hName 3) (bL (hName 4) kO) [.d (.int k),z] [some (I n),some x,some (.c M.length),g3,g4] (M++[.dt (bB ts)])=some ([some (I n),some x,some (.c M.length),some (I (k:Nat)),some z],M++[.dt (bB ts)]):=rfl;rw[g1,A1];dsimp only;rw[turn,A1];dsimp only;rw[ih,B2];rfl
structure EW(M:Sto)(n:Int)(x:CD)(us:List Tie):Prop where
 ex:∃zs P,(∀L,walked (M++L) x=some (zs,P))/\(∀L,P (M++L))/\(∀L,gZ [x] (M++L)=some (B true,M++L))/\Paired (tK M n) zs us
theorem EW.app(h:EW M n x us):EW (M++L) n x us:=by
 obtain⟨zs,P,h1,h2,h3,h4⟩:=h.ex;exact⟨zs,P,fun K=>by rw[B2];exact h1 _,fun K=>by rw[B2];exact h2 _,fun K=>by rw[B2];exact h3 _,Paired.mapP h4 fun _ _ r=>r.app⟩
noncomputable def Tie.lt(s t:Tie):Prop:=s.i<t.i\/(s.i=t.i/\s.j<t.j)
instance(s t:Tie):Decidable (Tie.lt s t):=by unfold Tie.lt;infer_instance
theorem key_ne{s t:Tie}(h:s.key≠t.key):¬(s.i=t.i/\s.j=t.j):=fun⟨a,b⟩=>h (by unfold Tie.key;rw[a,b])
theorem Tie.lt_tot{s t:Tie}(h:s.key≠t.key)(n:¬Tie.lt t s):Tie.lt s t:=by
 have:=key_ne h;unfold Tie.lt at n ⊢;omega
theorem Tie.lt_tr{s t u:Tie}(h:Tie.lt s t)(k:Tie.lt t u):Tie.lt s u:=by unfold Tie.lt at h k ⊢;omega
theorem Tie.lt_ir{s:Tie}(h:Tie.lt s s):False:=by unfold Tie.lt at h;omega
theorem vZ:∀{xs ys:List Tie},xs.Pairwise Tie.lt->ys.Pairwise Tie.lt->xs.Perm ys->xs=ys
 |[],ys=>fun _ _ p=>(List.nil_perm.mp p).symm
 |x::xs,[]=>fun _ _ p=>absurd p.length_eq (by simp)
 |x::xs,y::ys=>fun hx hy p=>by
  obtain⟨x1,x2⟩:=List.pairwise_cons.mp hx;obtain⟨y1,y2⟩:=List.pairwise_cons.mp hy
  have e:x=y:=by
   have mx:x∈y::ys:=p.mem_iff.mp B3;have my:y∈x::xs:=p.mem_iff.mpr B3;rcases List.mem_cons.mp mx with e|mx
   .exact e
   .rcases List.mem_cons.mp my with e|my
    .exact e.symm
    .exact(Tie.lt_ir (Tie.lt_tr (x1 y my) (y1 x mx))).elim
  subst e;rw[vZ x2 y2 (List.perm_cons x |>.mp p)]
structure OG(f:Tie->List PyData):Prop where
 sh:∀t,(f t).all SeqAt.shaped=true
 on:∀t,cY (f t)=true
 hd:∀us:List Tie,(kI (us.map f) || qX (us.map f))=true
 lt:∀s t,s.key≠t.key->dH (f s) (f t)=some (decide (Tie.lt s t))
 eq:∀s,(dH (f s) (f s)).isSome=true
noncomputable def f1(t:Tie):List PyData:=[.tuple [.int t.i,.int t.j],.tuple [.int t.a,.int t.b]]
noncomputable def f2(t:Tie):List PyData:=[.int t.i,.int t.j,.tuple [.int t.a,.int t.b]]
theorem DN:PyData.eqv (.int a) (.int b)=(a==b):=rfl
theorem KB{c d:Int}:PyData.eqv (.tuple [.int a,.int b]) (.tuple [.int c,.int d])=(a==c&&(b==d&&true)):=rfl
theorem rf1:OG f1:=by
 refine⟨fun t=>rfl,fun t=>rfl,fun us=>?_,fun s t h=>?_,fun s=>?_⟩
 .rw[Bool.or_eq_true];exact .inr (by unfold qX;rw[List.all_map];exact List.all_eq_true.mpr fun t _=>rfl)
 .have k:=key_ne h
  have e:(s.i==t.i&&(s.j==t.j&&true))=false:=by
   rw[Bool.and_true,Bool.and_eq_false_iff];by_cases q:s.i=t.i
   .exact .inr (by simpa using fun z=>k ⟨q,z⟩)
   .exact .inl (by simpa using q)
  unfold f1 dH;rw[KB,e,A5 A4];show some (HT.lexLt [s.i,s.j] [t.i,t.j])=_;congr 1;rw[HT.lexLt_cons,HT.lexLt_cons];by_cases q:s.i=t.i
  .have q':¬s.j=t.j:=fun z=>k ⟨q,z⟩;rw[A3 q,A5 q'];simp[Tie.lt,q]
  .rw[A5 q];simp[Tie.lt,q]
 .unfold f1 dH;rw[KB];simp only[beq_self_eq_true,Bool.and_true,if_true];unfold dH;rw[KB];simp only[beq_self_eq_true,Bool.and_true,if_true];rfl
theorem rf2:OG f2:=by
 refine⟨fun t=>rfl,fun t=>rfl,fun us=>?_,fun s t h=>?_,fun s=>?_⟩
 .rw[Bool.or_eq_true];exact .inl (by unfold kI;rw[List.all_map];exact List.all_eq_true.mpr fun t _=>rfl)
 .have k:=key_ne h;unfold f2 dH;rw[DN];by_cases q:s.i=t.i
  .have q':¬s.j=t.j:=fun z=>k ⟨q,z⟩;have e1:(s.i==t.i)=true:=by simpa using q
   have e2:(s.j==t.j)=false:=by simpa using q'
   rw[e1,A3 rfl];unfold dH;rw[DN,e2,A5 A4];show some (decide (s.j<t.j))=_;simp[Tie.lt,q]
  .have e1:(s.i==t.i)=false:=by simpa using q
   rw[e1,A5 A4];show some (decide (s.i<t.i))=_;simp[Tie.lt,q]
 .unfold f2 dH;rw[DN];simp only[beq_self_eq_true,if_true];unfold dH;rw[DN];simp only[beq_self_eq_true,if_true];unfold dH;rw[KB];simp only[beq_self_eq_true,Bool.and_true,if_true];rfl
theorem BF{f:Tie->List PyData}(h:i<us.length):(us.map f).getD i []=f us[i]:=by
 rw[C2,D5,B5 h];rfl
theorem aFr(nd:(us.map Tie.key).Nodup){j:Nat}(hi:i<us.length)(hj:j<us.length)(h:i≠j):us[i].key≠us[j].key:=fun q=>by
 have:=(List.getElem_inj (h₀:=by rw[A8];exact hi) (h₁:=by rw[A8];exact hj) nd).mp (by rw[List.getElem_map,List.getElem_map];exact q);exact h this
theorem aJp{f:Tie->List PyData}(R:OG f)(nd:(us.map Tie.key).Nodup)(h2:2<=us.length)(h64:us.length<64):sortable (us.map f)=true:=by
 unfold sortable;rw[A8,C7 h2,C7 h64,R.hd us,Bool.true_and,Bool.true_and,Bool.and_true,B4];refine⟨List.all_eq_true.mpr fun r hr=>?_,List.all_eq_true.mpr fun i hi=>List.all_eq_true.mpr fun j hj=>?_⟩
 .obtain⟨t,_,rfl⟩:=List.mem_map.mp hr;rw[R.sh,R.on];rfl
 .have hi:=List.mem_range.mp hi;have hj:=List.mem_range.mp hj;rw[BF hi,BF hj];by_cases q:i=j
  .subst q;exact R.eq _
  .rw[R.lt _ _ (aFr nd hi hj q)];rfl
theorem aDO{f:Tie->List PyData}(R:OG f){j:Nat}(hi:i<us.length)(hj:j<us.length)(k:us[i].key≠us[j].key):eV (us.map f) i j=decide (Tie.lt us[i] us[j]):=by
 unfold eV;rw[BF hi,BF hj,R.lt _ _ k];rfl
def t0:Tie:=⟨0,0,0,0⟩
theorem WJ(us:List Tie):(List.range us.length).map (fun i=>us.getD i t0)=us:=by
 refine List.ext_getElem? fun i=>?_;rw[D5];by_cases h:i<us.length
 .rw[List.getElem?_range h,B5 h];show some (us.getD i t0)=_;rw[C2,B5 h];rfl
 .rw[List.getElem?_eq_none (by rw[List.length_range];omega),List.getElem?_eq_none (by omega)];rfl
theorem PH(h:i<us.length):us.getD i t0=us[i]:=by
 rw[C2,B5 h];rfl
theorem GD{f:Tie->List PyData}(R:OG f)(nd:(us.map Tie.key).Nodup)(h64:us.length<64):∃vs:List Tie,vs.Perm us/\vs.Pairwise Tie.lt/\tG (us.map f)=some (vs.map fun t=>.tuple (f t))/\(2<=us.length->FU (us.map f)=vs.map fun t=>.tuple (f t))/\(us.length<2->vs=us):=by
 by_cases h2:2<=us.length
 .have ab:=aJp R nd h2 h64;have pm:=mI (n:=(us.map f).length) (eV (us.map f)) (by rw[A8];omega);have so:=FE ab;rw[A8]at pm so;have mem:∀i∈dY (eV (us.map f)) us.length,i<us.length:=fun i hi=>List.mem_range.mp (pm.mem_iff.mp hi)
  have sd:FU (us.map f)=((dY (eV (us.map f)) us.length).map fun i=>us.getD i t0).map fun t=>.tuple (f t):=by
   unfold FU;rw[A8,Y8];refine List.map_congr_left fun i hi=>?_;show PyData.tuple ((us.map f).getD i [])=.tuple (f (us.getD i t0));rw[BF (mem i hi),PH (mem i hi)]
  refine⟨(dY (eV (us.map f)) us.length).map fun i=>us.getD i t0,?_,?_,?_,fun _=>sd,fun q=>by omega⟩
  .have:=pm.map fun i=>us.getD i t0
   rwa [WJ]at this
  .rw[List.pairwise_map];have nd2:(dY (eV (us.map f)) us.length).Nodup:=pm.nodup_iff.mpr List.nodup_range;have len:(dY (eV (us.map f)) us.length).length=us.length:=by rw[pm.length_eq,List.length_range]
   rw[List.pairwise_iff_getElem];intro a b ha hb hab;have hx:=mem _ (L8 ha);have hy:=mem _ (L8 hb)
   have g:∀c (hc:c<(dY (eV (us.map f)) us.length).length),(WU (eV (us.map f)) (PySem.W.kas_sort us.length)).getD c 0=(dY (eV (us.map f)) us.length)[c]:=fun c hc=>by
    unfold dY at hc ⊢;rw[Y5]at hc;simp[Array.getD,hc]
   have s1:=so a b hab (by rw[<- len];exact hb);rw[g a ha,g b hb]at s1
   have ne:(dY (eV (us.map f)) us.length)[b]≠(dY (eV (us.map f)) us.length)[a]:=fun q=>by
    have:=(List.getElem_inj nd2).mp q;omega
   have kn:=aFr nd hy hx ne;rw[aDO R hy hx kn]at s1;rw[PH hx,PH hy];exact Tie.lt_tot (F4 kn) (E8 s1)
  .unfold tG;rw[ab,A3 rfl,sd]
 .have hl:us.length<2:=by omega
  refine⟨us,.refl _,?_,?_,fun q=>absurd q h2,fun _=>rfl⟩
  .rcases us with _|⟨t,_|⟨u,r⟩⟩
   .exact .nil
   .exact List.pairwise_singleton _ _
   .simp only[List.length_cons]at hl;omega
  .unfold tG
   have:sortable (us.map f)=false:=by
    unfold sortable;rw[A8,B9 h2];rfl
   rw[this,A5 A4,A8,A3 hl,Y8];rfl
noncomputable def big(t:Tie):Bool:=decide (t.a > 0)
noncomputable def bY(vs:List Tie):List PyData:=(vs.filter big).map fun t=>.tuple (f2 t)
theorem oH{cap:List (Option Nat)}{f:AF}{c:TF}{ee:EF}{M1 M2:Sto}{xs:List CD}(it:f γ M=some (xs,M1))(hl:xs.length<=sizeLine)(e:lcF g c ee xs (sM cap γ) M1=some (ds.map .d,M2))(hd:ds.length<=sizeLine):fLc cap f g c ee γ M=some (.d (.list ds),M2):=by
 have h1:pE cap f g c ee γ M=some (ds.map .d,M2):=by
  unfold pE;rw[it,A1,A3 hl];exact e
 show(pE cap f g c ee γ M).bind _=_;rw[h1,A1,pG,A1,A3 hd]
noncomputable abbrev kG:GF:=qP 2 (bL (qP 2 (bL (hName 0) (bL (hName 1) kO))) (bL (hName 2) kO))
noncomputable abbrev kC:TF:=gB (fOp gtI (fOp ixF (aD 2) (fC (.int 0))) (fC (.int 0)))
noncomputable abbrev kE:EF:=cK (aB (aD 0) (aB (aD 1) (aB (aD 2) aI)))
theorem FT{M:Sto}:∀(vs:List Tie)(s1 s2 s3:Option CD),lcF kG kC kE (vs.map fun t=>.d (.tuple (f1 t))) [s1,s2,s3] M=some ((bY vs).map .d,M)
 |[]=>fun _ _ _=>rfl
 |t::vs=>fun s1 s2 s3=>by
  have ih:=FT (M:=M) vs (some (I t.i)) (some (I t.j)) (some (.d (.tuple [.int t.a,.int t.b])));have g1:kG (.d (.tuple (f1 t))) [s1,s2,s3] M=some ([some (I t.i),some (I t.j),some (.d (.tuple [.int t.a,.int t.b]))],M):=rfl;have c1:kC [some (I t.i),some (I t.j),some (.d (.tuple [.int t.a,.int t.b]))] M=some (big t,M):=rfl
  have e1:kE [some (I t.i),some (I t.j),some (.d (.tuple [.int t.a,.int t.b]))] M=some (.d (.tuple (f2 t)),M):=by
   have l3:3<=sizeLine:=sz (by decide);simp![kE,f2,if_pos l3,Nat.zero_add]
  rw[C4];unfold lcF;rw[g1,A1];dsimp only;rw[c1,A1];dsimp only;by_cases hb:big t=true
  .rw[A3 hb,e1,A1];dsimp only;rw[ih,A1];unfold bY;rw[U4 hb];rfl
  .rw[A5 hb,ih];unfold bY;rw[U5 hb]
theorem LM:∀us:List Tie,HJ (bB us)=some (us.map fun t=>(t.key,.tuple [.int t.a,.int t.b]))
 |[]=>rfl
 |t::us=>by
  show(HJ (bB us)).bind _=_;rw[LM us];rfl
theorem aDt(us:List Tie):(us.map fun t=>(t.key,PyData.tuple [.int t.a,.int t.b])).map LV=us.map f1:=by
 rw[Y8];rfl
theorem aAJ(h:vs.length<=1000):(bY vs).length<=sizeLine:=by
 unfold bY;rw[A8];exact sz (C8 (E9 ..) h)
theorem aIH(h:EW M n x us)(nd:(us.map Tie.key).Nodup)(h64:us.length<64):
 ∃vs:List Tie,vs.Perm us/\vs.Pairwise Tie.lt/\eS [I n,x] M=some (.v (.d (.tuple (bY vs))),M++[.dt (bB us)]):=by
 obtain⟨vs,pm,pw,sr,_⟩:=GD rf1 nd h64;refine⟨vs,pm,pw,?_⟩;obtain⟨zs,P,hw,hP,hr,pr⟩:=h.ex;obtain⟨g3,g4,lp⟩:=GU (x:=x) hP [] 0 none none pr (by rw[Y2];exact nd) (by simp only[List.length_nil];omega);rw[Y2]at lp;have hw':=hw [.dt (bB [])];have rw1:=hr [];rw[C5]at rw1;have hD:(M++[.dt (bB us)])[M.length]?=some (.dt (bB us)):=dF;have lv:vs.length<64:=by rw[pm.length_eq];exact h64
 have it:cP (zD (aD 2)) [some (I n),some x,some (.c M.length),g3,g4] (M++[.dt (bB us)])=some (vs.map fun t=>.d (.tuple (f1 t)),M++[.dt (bB us)]):=by
  have s1:zD (aD 2) [some (I n),some x,some (.c M.length),g3,g4] (M++[.dt (bB us)])=some (.d (.list (vs.map fun t=>.tuple (f1 t))),M++[.dt (bB us)]):=by
   simp![zD,hD,LM,aDt,sr]
  unfold cP;rw[s1,A1];show(some (vs.map fun t=>PyData.tuple (f1 t))).bind _=_;rw[A1,Y8];rfl
 have cp:oG [some (I n),some x,some (.c M.length),g3,g4] (M++[.dt (bB us)])=some (.d (.list (bY vs)),M++[.dt (bB us)]):=by
  unfold oG;exact oH it (sz (by rw[A8];omega)) (FT vs none none none) (aAJ (by omega))
 have tf:eY [.d (.list (bY vs))] (M++[.dt (bB us)])=some (.d (.tuple (bY vs)),M++[.dt (bB us)]):=rfl;have k0:(M++[Cell.dt []])=M++[.dt (bB [])]:=rfl;simp![eS,mX,rw1,BB,k0,EO,hw',lp,cp,tf]
noncomputable def aO(us:List Tie):List PyData:=us.map fun t=>.tuple (f2 t)
noncomputable def Ok(n:Int)(us:List Tie):Prop:=(∀t∈us,fR t.a t.b=true/\0<=t.i/\t.i<t.j/\t.j<n)/\(us.map Tie.key).Nodup/\us.length<64
theorem TC{t:Tie}(h:fR t.a t.b=true):(!(t.a==0&&(t.b==1&&true)))=big t:=by
 have hb:=aAd h;unfold fR at h;simp only[Bool.and_eq_true,beq_iff_eq]at h;have g:Int.gcd t.a t.b=1:=h.1.2;unfold big;by_cases q:t.a=0
 .have:t.b=1:=by
   rw[q,Int.gcd_zero_left]at g;omega
  rw[q,this];rfl
 .have e:(t.a==0)=false:=by simpa using q
  have:t.a > 0:=by omega
  rw[e,C7 this];rfl
theorem LU{M:Sto}:∀(us:List Tie)(s:Option CD),(∀t∈us,fR t.a t.b=true)->lcF (hName 0) (gB (fOp (eqX true) (fOp ixF (aD 0) (fC (.int 2))) pS)) (aD 0) ((aO us).map .d) [s] M=some ((aO (us.filter big)).map .d,M)
 |[]=>fun _ _=>rfl
 |t::us=>fun s hw=>by
  have ih:=LU (M:=M) us (some (.d (.tuple (f2 t)))) fun u hu=>hw u (B1 _ hu)
  have c1:gB (fOp (eqX true) (fOp ixF (aD 0) (fC (.int 2))) pS) [some (.d (.tuple (f2 t)))] M=some (big t,M):=by
   rw[<- TC (hw t B3)];rfl
  show lcF _ _ _ (.d (.tuple (f2 t))::(aO us).map .d) [s] M=_;unfold lcF;rw[show hName 0 (.d (.tuple (f2 t))) [s] M=some ([some (.d (.tuple (f2 t)))],M)from rfl,A1];dsimp only;rw[c1,A1];dsimp only;by_cases hb:big t=true
  .rw[A3 hb,show aD 0 [some (.d (.tuple (f2 t)))] M=some (.d (.tuple (f2 t)),M)from rfl,A1];dsimp only;rw[ih,A1,U4 hb];rfl
  .rw[A5 hb,ih,U5 hb]
theorem zV:∀us:List Tie,rowsOf (aO us)=some (us.map f2)
 |[]=>rfl
 |t::us=>by
  show(rowsOf (aO us)).bind _=_;rw[zV us];rfl
theorem qJ(nd:(us.map Tie.key).Nodup):((us.filter big).map Tie.key).Nodup:=(List.filter_sublist.map Tie.key).nodup nd
theorem aAQ(ok:Ok n us)(pm:(vs.filter big).Perm (us.filter big))(pw:vs.Pairwise Tie.lt):eT [.d (.list (aO us))] M=some (.d (.tuple (bY vs)),M):=by
 obtain⟨hw,nd,h64⟩:=ok;have fl:(us.filter big).length<=us.length:=E9 ..;obtain⟨ws,pm2,pw2,_,s2,s3⟩:=GD rf2 (qJ nd) (by omega);have e:ws=vs.filter big:=vZ pw2 (pw.filter _) (pm2.trans pm.symm)
 have c1:pQ [some (.d (.list (aO us)))] M=some (.d (.list (aO (us.filter big))),M):=by
  unfold pQ;have len:∀l:List Tie,(aO l).length=l.length:=fun l=>by rw[aO,A8]
  exact oH (M1:=M) (xs:=(aO us).map .d) rfl (sz (by rw[A8,len];omega)) (LU us none fun t ht=>(hw t ht).1) (sz (by rw[len];omega))
 have so:wB [.d (.list (aO (us.filter big)))] M=some (.d (.list (bY vs)),M):=by
  have len:(aO (us.filter big)).length=(us.filter big).length:=by rw[aO,A8]
  by_cases h2:(us.filter big).length<2
  .have:ws=us.filter big:=s3 h2;have e2:aO (us.filter big)=bY vs:=by unfold aO bY;rw[<- e,this]
   rw[<- e2];simp only[wB,CB,if_pos (show(aO (us.filter big)).length<2 by rw[len];exact h2)]
  .have ab:=aJp rf2 (qJ nd) (by omega) (by omega);have s4:=s2 (by omega)
   have s5:AL [.d (.list (aO (us.filter big)))] M=some (.d (.list (bY vs)),M):=by
    show(rowsOf (aO (us.filter big))).bind _=_;rw[zV,A1,A3 ab,s4,e];rfl
   simp only[wB,CB,if_neg (show ¬(aO (us.filter big)).length<2 by rw[len];omega),s5]
 have tf:eY [.d (.list (bY vs))] M=some (.d (.tuple (bY vs)),M):=rfl;simp![eT,vT,c1,so,tf]
theorem NH{N:Sto}:∀(ws ts:List Tie)(s1 s2 s3:Option CD),((ts++ws).map Tie.key).Nodup->ts.length+ws.length<1000->
 dcF N.length (qP 3 (bL (hName 0) (bL (hName 1) (bL (hName 2) kO)))) iD (EZ (aB (aD 0) (aB (aD 1) aI))) (aD 2) ((aO ws).map .d) [s1,s2,s3] (N++[.dt (bB ts)])=some (N++[.dt (bB (ts++ws))])
 |[]=>fun ts _ _ _ _ _=>by rw[C5];rfl
 |t::ws=>fun ts s1 s2 s3 nd hl=>by
  have nk:∀s∈ts,s.key≠t.key:=fun s hs q=>by
   rw[D3,O8]at nd;exact nd.2.2 _ (J4 hs) _ (by rw[C4];exact B3) q
  have ih:=NH (N:=N) ws (ts++[t]) (some (I t.i)) (some (I t.j)) (some t.val) (by rw[B2];exact nd) (by rw[A9];simp only[List.length_cons,List.length_nil]at hl ⊢;omega);have hD:(N++[.dt (bB ts)])[N.length]?=some (.dt (bB ts)):=by rw[C6 (A7 _),J5];rfl
  have len:(bB ts).length<sizeLine:=by unfold bB;rw[A8,E1];omega
  have st:NR (N++[.dt (bB ts)]) (.c N.length) (.inr t.key) t.val=some (N++[.dt (bB (ts++[t]))]):=by
   simp only[NR,hD,if_pos len,RQ nk];rw[List.set_append_right _ _ (A7 _),J5];rfl
  have l2:(Tie.key t).length<=sizeLine:=sz (show 2<=1000 by decide)
  have kf:EZ (aB (aD 0) (aB (aD 1) aI)) [some (I t.i),some (I t.j),some t.val] (N++[.dt (bB ts)])=some (.inr t.key,N++[.dt (bB ts)]):=by
   have kk:keysOf [I t.i,I t.j]=some t.key:=rfl;simp![EZ,kk,if_pos l2]
  show dcF _ _ _ _ _ (.d (.tuple (f2 t))::(aO ws).map .d) [s1,s2,s3] _=_;unfold dcF;rw[show qP 3 (bL (hName 0) (bL (hName 1) (bL (hName 2) kO))) (.d (.tuple (f2 t))) [s1,s2,s3] (N++[.dt (bB ts)])=some ([some (I t.i),some (I t.j),some t.val],N++[.dt (bB ts)])from rfl,A1];dsimp only;rw[show iD [some (I t.i),some (I t.j),some t.val] (N++[.dt (bB ts)])=some (true,N++[.dt (bB ts)])from rfl,A1];dsimp only;rw[A3 rfl,kf,A1];dsimp only;rw[show aD 2 [some (I t.i),some (I t.j),some t.val] (N++[.dt (bB ts)])=some (t.val,N++[.dt (bB ts)])from rfl,A1];dsimp only;rw[st,A1,ih,B2];rfl
noncomputable def aIE(w:Nat)(n:Int)(vs:List Tie):Cell:=.obj "Web" [("many",I n),("ties",.d (.tuple (bY vs))),("weights",.c (w+2))]
noncomputable def uD(w:Nat)(n:Int)(us vs:List Tie):List Cell:=[aIE w n vs,.dt (bB us),.dt (bB (vs.filter big))]
theorem KL{fs:List (Str×CD)}:objOf "Web" (M++(.obj "Web" fs::L)) (.c M.length)=some (M.length,fs):=by
 have:(M++(Cell.obj "Web" fs::L))[M.length]?=some (.obj "Web" fs):=by rw[C6 (A7 _),J5];rfl
 simp only[objOf,this,if_true]
theorem vL{c:Cell}:(M++(c::L)).set M.length c'=M++(c'::L):=by
 rw[List.set_append_right _ _ (A7 _),J5];rfl
theorem aBu(h:EW M n x us)(nd:(us.map Tie.key).Nodup)(h64:us.length<64)(n1:1<=n)(n40:n<=40):
 ∃vs:List Tie,vs.Perm us/\vs.Pairwise Tie.lt/\cH [.c M.length,I n,x] (M++[.obj "Web" []])=some (.v (.d .none),M++uD M.length n us vs):=by
 obtain⟨vs,pm,pw,k1⟩:=aIH (h.app (L:=[.obj "Web" [("many",I n)]])) nd h64;refine⟨vs,pm,pw,?_⟩;have w1:dU [I n] (M++[.obj "Web" []])=some (B true,M++[.obj "Web" []]):=rP;have c1:decide (n<1)=false:=B9 (by omega);have c2:decide (n > 40)=false:=B9 (by omega);have o1:objOf "Web" (M++[.obj "Web" []]) (.c M.length)=some (M.length,[]):=KL;have s1:(M++[Cell.obj "Web" []]).set M.length (.obj "Web" (xH "many" (I n) []))=M++[.obj "Web" [("many",I n)]]:=vL
 have k1:eS [I n,x] (M++[.obj "Web" [("many",I n)]])=some (.v (.d (.tuple (bY vs))),M++[.obj "Web" [("many",I n)],.dt (bB us)]):=by
  rw[k1,B2];rfl
 have o2:objOf "Web" (M++[.obj "Web" [("many",I n)],.dt (bB us)]) (.c M.length)=some (M.length,([("many",I n)]:List (Str×CD))):=KL;have p2:xH "ties" (.d (.tuple (bY vs))) ([("many",I n)]:List (Str×CD))=([("many",I n),("ties",.d (.tuple (bY vs)))]:List (Str×CD)):=rfl;have s2:(M++[Cell.obj "Web" [("many",I n)],.dt (bB us)]).set M.length (.obj "Web" [("many",I n),("ties",.d (.tuple (bY vs)))])=M++[.obj "Web" [("many",I n),("ties",.d (.tuple (bY vs)))],.dt (bB us)]:=vL;have o3:∀L,objOf "Web" (M++(.obj "Web" [("many",I n),("ties",.d (.tuple (bY vs)))]::L)) (.c M.length)=some (M.length,([("many",I n),("ties",.d (.tuple (bY vs)))]:List (Str×CD))):=fun L=>KL;have lk:List.lookup ("ties":Str) [("many",I n),("ties",.d (.tuple (bY vs)))]=some (.d (.tuple (bY vs))):=rfl
 have it:cP (cV "Web" "ties" (aD 0)) [some (.c M.length),some (I n),some x] (M++[.obj "Web" [("many",I n),("ties",.d (.tuple (bY vs)))],.dt (bB us)])=some ((aO (vs.filter big)).map .d,M++[.obj "Web" [("many",I n),("ties",.d (.tuple (bY vs)))],.dt (bB us)]):=by
  have:cV "Web" "ties" (aD 0) [some (.c M.length),some (I n),some x] (M++[.obj "Web" [("many",I n),("ties",.d (.tuple (bY vs)))],.dt (bB us)])=some (.d (.tuple (bY vs)),M++[.obj "Web" [("many",I n),("ties",.d (.tuple (bY vs)))],.dt (bB us)]):=by
   simp![cV,o3,lk]
  unfold cP;rw[this];rfl
 have fl:(vs.filter big).length<=vs.length:=E9 ..;have lv:vs.length<64:=by rw[pm.length_eq];exact h64
 have nv:(vs.map Tie.key).Nodup:=(pm.map Tie.key).nodup_iff.mpr nd;have ln:(M++[Cell.obj "Web" [("many",I n),("ties",.d (.tuple (bY vs)))],.dt (bB us)]).length=M.length+2:=by rw[A9];rfl
 have wc:=NH (N:=M++[.obj "Web" [("many",I n),("ties",.d (.tuple (bY vs)))],.dt (bB us)]) (vs.filter big) [] none none none (by rw[Y2];exact qJ nv) (by simp only[List.length_nil];omega);rw[Y2]at wc
 have dc:nU [some (.c M.length),some (I n),some x] (M++[.obj "Web" [("many",I n),("ties",.d (.tuple (bY vs)))],.dt (bB us)])=some (.c (M.length+2),M++[.obj "Web" [("many",I n),("ties",.d (.tuple (bY vs)))],.dt (bB us),.dt (bB (vs.filter big))]):=by
  unfold nU fDc;rw[it,A1];dsimp only;rw[show sM [none,none,none] [some (CD.c M.length),some (I n),some x]=[none,none,none]from rfl,show(M++[Cell.obj "Web" [("many",I n),("ties",CD.d (.tuple (bY vs)))],.dt (bB us)]++[Cell.dt []])=M++[Cell.obj "Web" [("many",I n),("ties",CD.d (.tuple (bY vs)))],.dt (bB us)]++[Cell.dt (bB [])]from rfl,wc,A1,ln,B2];rfl
 have p3:xH "weights" (.c (M.length+2)) ([("many",I n),("ties",.d (.tuple (bY vs)))]:List (Str×CD))=([("many",I n),("ties",.d (.tuple (bY vs))),("weights",.c (M.length+2))]:List (Str×CD)):=rfl;have s3:(M++[Cell.obj "Web" [("many",I n),("ties",.d (.tuple (bY vs)))],.dt (bB us),.dt (bB (vs.filter big))]).set M.length (.obj "Web" [("many",I n),("ties",.d (.tuple (bY vs))),("weights",.c (M.length+2))])=M++uD M.length n us vs:=vL;have q0:([]:List (Str×CD)).length<1000:=by decide
 have q1:([("many",I n)]:List (Str×CD)).length<1000:=by show 1<1000;decide
 have q2:([("many",I n),("ties",.d (.tuple (bY vs)))]:List (Str×CD)).length<1000:=by show 2<1000;decide
 simp![cH,mT,w1,c1,c2,FZ,NK,o1,s1,k1,o2,p2,s2,dc,o3,p3,s3,if_true,if_pos q0,if_pos q1,if_pos q2,show(0:Nat)<1000 from by decide,show(0+1:Nat)<1000 from by decide,show(1:Nat)<1000 from by decide,show(2:Nat)<1000 from by decide,show(0+1+1:Nat)<1000 from by decide]
theorem QR(hf:fa γ M=some ([I n,x],M))(h:EW M n x us)(nd:(us.map Tie.key).Nodup)(h64:us.length<64)(n1:1<=n)(n40:n<=40):
 ∃vs:List Tie,vs.Perm us/\vs.Pairwise Tie.lt/\wD "Web" cH fa γ M=some (.c M.length,M++uD M.length n us vs):=by
 obtain⟨vs,pm,pw,e⟩:=aBu h nd h64 n1 n40;refine⟨vs,pm,pw,?_⟩;unfold wD;rw[hf,A1];dsimp only;rw[e,A1];rfl
theorem aBA(hf:fa γ N=some ([I n,x],M))(h:EW M n x us)(nd:(us.map Tie.key).Nodup)(h64:us.length<64)(n1:1<=n)(n40:n<=40):
 ∃vs:List Tie,vs.Perm us/\vs.Pairwise Tie.lt/\zO "Web" cH fa γ N=some (.v (.c M.length),M++uD M.length n us vs):=by
 obtain⟨vs,pm,pw,e⟩:=aBu h nd h64 n1 n40;refine⟨vs,pm,pw,?_⟩;unfold zO;rw[hf,A1];dsimp only;rw[e,A1];rfl
noncomputable def bZ(M:Sto)(w:Nat)(n:Int)(vs:List Tie):Prop:=M[w]?=some (aIE w n vs)/\M[w+2]?=some (.dt (bB (vs.filter big)))
theorem mC:bZ (M++uD M.length n us vs++L) M.length n vs:=by
 constructor
 .rw[B2,C6 (A7 _),J5];rfl
 .rw[B2,C6 (S7 _ _),O0];rfl
theorem bZ.up(h:bZ M w n vs):bZ (M++L) w n vs:=by
 have a1:w<M.length:=(List.getElem?_eq_some_iff.mp h.1).1;have a2:w+2<M.length:=(List.getElem?_eq_some_iff.mp h.2).1;constructor
 .rw[C1 a1];exact h.1
 .rw[C1 a2];exact h.2
noncomputable def plc(n:Int):PyData->Bool
 |.int i=>decide (0<=i)&&decide (i<n)
 |_=>false
theorem lX(n:Int)(p:PyData)(M:Sto):eU [I n,.d p] M=some (B (plc n p),M):=by
 cases hp:fD p with
 |false=>
  have e:plc n p=false:=by cases p<;>first|rfl|cases hp
  rw[e];simp![eU,mH,iE,hp]
 |true=>
  obtain⟨i,rfl⟩:∃i,p=.int i:=by cases p<;>first|exact⟨_,rfl⟩|cases hp
  have hc:plc n (.int i)=(decide (0<=i)&&decide (i<n)):=rfl;rw[hc];cases h0:decide (0<=i)<;>simp![eU,mH,iE,hp,h0,Bool.true_and,Bool.false_and]
noncomputable def ulk(n:Int)(p q:PyData):Bool:=match p,q with
 |.int i,.int j=>plc n p&&(plc n q&&!(i==j))
 |_,_=>false
theorem AV{p:PyData}(h:plc n p=true):∃i,p=.int i/\0<=i/\i<n:=by
 cases p with
 |int i=>simp only[plc,Bool.and_eq_true,decide_eq_true_eq]at h;exact⟨i,rfl,h.1,h.2⟩
 |_=>cases h
theorem aJA(n:Int)(p q:PyData)(M:Sto):bT [I n,.d p,.d q] M=some (B (ulk n p q),M):=by
 cases h1:plc n p with
 |false=>
  have e:ulk n p q=false:=by
   unfold ulk;split
   .rw[h1];rfl
   .rfl
  rw[e];simp![bT,cU,lX,h1]
 |true=>
  obtain⟨i,rfl,_⟩:=AV h1;cases h2:plc n q with
  |false=>
   have e:ulk n (.int i) q=false:=by
    unfold ulk;split
    .rw[h2,Bool.false_and,Bool.and_false]
    .rfl
   rw[e];simp![bT,cU,lX,h1,h2]
  |true=>
   obtain⟨j,rfl,_⟩:=AV h2;have e:ulk n (.int i) (.int j)=!(i==j):=by show(plc n (.int i)&&(plc n (.int j)&&!(i==j)))=_;rw[h1,h2];rfl
   rw[e];simp![bT,cU,lX,h1,h2,yZ]
theorem dD(us:List Tie):(aO us).length=us.length:=by unfold aO;rw[A8]
section
variable{M:Sto}{w:Nat}{n:Int}{vs:List Tie}
theorem bZ.obj(h:bZ M w n vs):objOf "Web" M (.c w)=some (w,([("many",I n),("ties",.d (.tuple (bY vs))),("weights",.c (w+2))]:List (Str×CD))):=by
 simp only[objOf,h.1,aIE,if_true]
theorem bZ.many(h:bZ M w n vs)(hf:f γ M=some (.c w,M)):cV "Web" "many" f γ M=some (I n,M):=by
 have lk:List.lookup ("many":Str) [("many",I n),("ties",.d (.tuple (bY vs))),("weights",.c (w+2))]=some (I n):=rfl;simp only[cV,hf,h.obj,lk,Option.bind_some]
theorem bZ.ties(h:bZ M w n vs)(hf:f γ M=some (.c w,M)):cV "Web" "ties" f γ M=some (.d (.tuple (bY vs)),M):=by
 have lk:List.lookup ("ties":Str) [("many",I n),("ties",.d (.tuple (bY vs))),("weights",.c (w+2))]=some (.d (.tuple (bY vs))):=rfl;simp only[cV,hf,h.obj,lk,Option.bind_some]
end
theorem DD(lo:Int)(m:Nat):jP lo (m+1)=I lo::jP (lo+1) m:=by
 unfold jP;rw[List.range_succ_eq_map,C4,Y8];congr 1
 .show CD.d (.int (lo+((0:Nat):Int)))=_;rw[show lo+((0:Nat):Int)=lo by omega]
 .refine List.map_congr_left fun i _=>?_;show CD.d (.int (lo+((i+1:Nat):Int)))=.d (.int (lo+1+(i:Nat)));rw[show lo+((i+1:Nat):Int)=lo+1+(i:Nat)by omega]
theorem slL(xs:List PyData)(lo hi:Option Int)(M:Sto):slF (.d (.list xs)) lo hi M=some (.d (.list (pD xs lo hi)),M):=rfl
theorem vQ{ys:List PyData}(hl:(xs++ys).length<=sizeLine):dP (.d (.list xs)) (.d (.list ys)) M=some (.d (.list (xs++ys)),M):=by
 have a:YY (.d (.list xs)) (.d (.list ys)) M=none:=rfl
 have c:FQ (.d (.list xs)) (.d (.list ys)) M=some (.d (.list (xs++ys)),M):=by
  unfold FQ;simp only[qT,Option.bind_some];rw[<- D3,pG,A1,A3 hl]
 unfold dP BG;rw[a];dsimp only;rw[c]
theorem PU{r:Nat}(h:r<=xs.length):pD xs none (some (r:Int))=xs.take r:=by
 unfold pD;rw[HT.sIx_none,HT.sIx_nat,List.drop_zero,Nat.sub_zero,Nat.min_eq_left h]
theorem BN{r:Nat}(h:r<=xs.length):pD xs (some (r:Int)) none=xs.drop r:=by
 unfold pD;rw[HT.sIx_none,HT.sIx_nat,Nat.min_eq_left h,List.take_of_length_le];rw[J7];exact A7 _
theorem aAf{n c j i:Int}{g6:Option CD}(h:Stm M s)(h64:us.length<64):
 ∃us' g M',fM [some (.c s),some (I n),some (I c),some (.d (.list (aO us))),some (I j),some (I i),g6] M=some (.nx [some (.c s),some (I n),some (I c),some (.d (.list (aO us'))),some (I j),some (I i),g],M')/\Stm M' s/\(us'=us\/∃a b,fR a b=true/\us'.Perm (⟨i,j,a,b⟩::us)):=by
 obtain⟨r,M1,e1,r0,r1,n1⟩:=fS (m:=4) h (by decide) (by decide);have h1:=n1.stm h;by_cases q:r<c
 .have ln:gP [.d (.list (aO us))] M1=some (I us.length,M1):=by
   unfold gP;dsimp only;rw[show aW (.list (aO us))=some (aO us)from rfl,A1,dD]
  obtain⟨k,M2,e2,k0,k1,n2⟩:=fS (m:=(us.length:Int)+1) h1 (by omega) (by
   have:(2:Int) ^ 200=1606938044258990275541962092341162602522202993782792835301376:=by decide
   omega)
  have h2:=n2.stm h1;obtain⟨a,b,M3,e3,w3,n3⟩:=MV h2;have h3:=n3.stm h2;obtain⟨k,rfl⟩:∃z:Nat,k=(z:Int):=⟨k.toNat,by omega⟩;have kl:k<=(aO us).length:=by rw[dD];omega
  have rr:aO us=(aO us).take k++(aO us).drop k:=(List.take_append_drop ..).symm;have c1:=PU kl;have c2:=BN kl;have lt:((aO us).take k).length<=us.length:=by rw[J6,dD];omega
  have ld:((aO us).drop k).length<=us.length:=by rw[J7,dD];omega
  have a1:dP (.d (.list ((aO us).take k))) (.d (.list [.tuple [.int i,.int j,.tuple [.int a,.int b]]])) M3=some (.d (.list ((aO us).take k++[.tuple [.int i,.int j,.tuple [.int a,.int b]]])),M3):=vQ (sz (by rw[A9,C0,O6];omega));have a2:dP (.d (.list ((aO us).take k++[.tuple [.int i,.int j,.tuple [.int a,.int b]]]))) (.d (.list ((aO us).drop k))) M3=some (.d (.list ((aO us).take k++[.tuple [.int i,.int j,.tuple [.int a,.int b]]]++(aO us).drop k)),M3):=vQ (sz (by rw[A9,A9,C0,O6];omega))
  have er:(aO us).take k++[.tuple [.int i,.int j,.tuple [.int a,.int b]]]++(aO us).drop k=aO (us.take k++[⟨i,j,a,b⟩]++us.drop k):=by
   unfold aO;rw[D3,D3,List.map_take,List.map_drop];rfl
  have e3:dB [.c s] M2=some (.d (.tuple [.int a,.int b]),M3):=e3;refine⟨us.take k++[⟨i,j,a,b⟩]++us.drop k,some (I k),M3,?_,h3,.inr ⟨a,b,w3,?_⟩⟩
  .rw[<- er];simp![fM,fSl,hX,qS,e1,decide_eq_true q,ln,mV,e2,slL,aBX,c1,c2,e3,z1,z2,z3,a1,a2]
  .rw[B2];have p:=List.perm_middle (a:=(⟨i,j,a,b⟩:Tie)) (l₁:=us.take k) (l₂:=us.drop k);rw[List.take_append_drop]at p;exact p
 .refine⟨us,g6,M1,?_,h1,.inl rfl⟩;simp![fM,e1,decide_eq_false q]
structure Dr(n J K:Int)(us:List Tie):Prop where
 ok:∀t∈us,(fR t.a t.b=true/\0<=t.i/\t.i<t.j/\t.j<n)/\(t.j<J\/(t.j=J/\t.i<K))
 nd:(us.map Tie.key).Nodup
theorem Dr.more{K a b:Int}{us':List Tie}(d:Dr n J K us)(k0:0<=K)(kj:K<J)(jn:J<n)(h:us'=us\/∃a b,fR a b=true/\us'.Perm (⟨K,J,a,b⟩::us)):Dr n J (K+1) us'/\us'.length<=us.length+1:=by
 rcases h with rfl|⟨a,b,w,p⟩
 .exact⟨⟨fun t ht=>⟨(d.ok t ht).1,by have:=(d.ok t ht).2;omega⟩,d.nd⟩,by omega⟩
 .refine⟨⟨fun t ht=>?_,?_⟩,by rw[p.length_eq,C0];exact A7 _⟩
  .rcases List.mem_cons.mp (p.subset ht)with rfl|ht
   .exact⟨⟨w,k0,kj,jn⟩,.inr ⟨rfl,by show K<K+1;omega⟩⟩
   .exact⟨(d.ok t ht).1,by have:=(d.ok t ht).2;omega⟩
  .rw[(p.map Tie.key).nodup_iff,C4,Y4];refine⟨fun z=>?_,d.nd⟩;obtain⟨t,ht,e⟩:=List.mem_map.mp z;have e:([.inl t.i,.inl t.j]:List Key)=[.inl K,.inl J]:=e;injection e with e1 e2
   injection e2 with e2 _
   injection e1 with e1
   injection e2 with e2
   have:=(d.ok t ht).2;omega
theorem inner{s:Nat}{n c j:Int}(jn:j<n):∀(m:Nat)(i:Int)(us:List Tie)(g5 g6:Option CD)(M:Sto),0<=i->i+m=j->Stm M s->Dr n j i us->us.length+m<64->
 ∃us' g g' M',kZ (hName 5) fM (jP i m) [some (.c s),some (I n),some (I c),some (.d (.list (aO us))),some (I j),g5,g6] M=some (.nx [some (.c s),some (I n),some (I c),some (.d (.list (aO us'))),some (I j),g,g'],M')/\Stm M' s/\Dr n j j us'/\us'.length<=us.length+m
 |0=>fun i us g5 g6 M i0 hi h d _=>⟨us,g5,g6,M,rfl,h,by rwa [show i=j by omega]at d,A7 _⟩
 |m+1=>fun i us g5 g6 M i0 hi h d hl=>by
  obtain⟨us1,g,M1,e1,h1,q⟩:=aAf (n:=n) (c:=c) (j:=j) (i:=i) (g6:=g6) h (us:=us) (by omega);obtain⟨d1,l1⟩:=d.more (a:=0) (b:=0) i0 (by omega) jn q;obtain⟨us2,g2,g3,M2,e2,h2,d2,l2⟩:=inner jn m (i+1) us1 (some (I i)) g M1 (by omega) (by omega) h1 d1 (by omega);refine⟨us2,g2,g3,M2,?_,h2,d2,by omega⟩;rw[DD];unfold kZ;simp only[hName,List.set_cons_zero,List.set_cons_succ,List.length_cons,Option.bind_some,e1];exact e2
noncomputable def tri:Nat->Nat
 |0=>0
 |k+1=>tri k+k
theorem LJ(h0:0<=J)(h1:J<=40):fV J=true:=by
 simp only[fV,Bool.and_eq_true,decide_eq_true_eq];omega
theorem aDd{x0 x1 x2 x3:CD}{g5 g6:Option CD}(h0:0<=J)(h1:J<=40)(e:kZ (hName 5) fM (jP 0 J.toNat) [some x0,some x1,some x2,some x3,some (I J),g5,g6] M=some (.nx γ',M')):fN [some x0,some x1,some x2,some x3,some (I J),g5,g6] M=some (.nx γ',M'):=by
 have sm:=LJ h0 h1;simp![fN,uC,kH,sm,e]
theorem aAj(k:Nat):tri (k+1)=tri k+k:=rfl
theorem aKA{j:Nat}(h:j<=8):tri j<=28:=by
 have:j=0\/j=1\/j=2\/j=3\/j=4\/j=5\/j=6\/j=7\/j=8:=by omega
 rcases this with rfl|rfl|rfl|rfl|rfl|rfl|rfl|rfl|rfl<;>decide
theorem aBz{c:Int}(n9:n<=9){j:Nat}{g4 g5 g6:Option CD}(hj:(j:Int)<n)(h:Stm M s)(d:Dr n j 0 us)(l:us.length<=tri j):
 ∃us' g' g'' M',fN [some (.c s),some (I n),some (I c),some (.d (.list (aO us))),some (I j),g5,g6] M=some (.nx [some (.c s),some (I n),some (I c),some (.d (.list (aO us'))),some (I j),g',g''],M')/\Stm M' s/\Dr n ((j+1:Nat):Int) 0 us'/\us'.length<=tri (j+1):=by
 have t8:=aKA (j:=j) (by omega);obtain⟨us1,g,g',M1,e1,h1,d1,l1⟩:=inner (s:=s) (n:=n) (c:=c) (j:=(j:Int)) hj j 0 us g5 g6 M (by omega) (by omega) h d (by omega);have d2:Dr n ((j+1:Nat):Int) 0 us1:=⟨fun t ht=>⟨(d1.ok t ht).1,by have:=(d1.ok t ht).2;omega⟩,d1.nd⟩;refine⟨us1,g,g',M1,?_,h1,d2,by rw[aAj];omega⟩;exact aDd (by omega) (by omega) (by rw[Int.toNat_natCast];exact e1)
theorem outer{c:Int}(n9:n<=9)(m:Nat):∀(j:Nat)(us:List Tie)(g4 g5 g6:Option CD)(M:Sto),((j+m:Nat):Int)=n->Stm M s->Dr n j 0 us->us.length<=tri j->
 ∃us' g g' g'' M',kZ (hName 4) fN (jP j m) [some (.c s),some (I n),some (I c),some (.d (.list (aO us))),g4,g5,g6] M=some (.nx [some (.c s),some (I n),some (I c),some (.d (.list (aO us'))),g,g',g''],M')/\Stm M' s/\Dr n n 0 us'/\us'.length<=tri (j+m):=by
 induction m with
 |zero=>intro j us g4 g5 g6 M hj h d l;exact⟨us,g4,g5,g6,M,rfl,h,by rwa [show((j:Nat):Int)=n by omega]at d,l⟩
 |succ m ih=>
  intro j us g4 g5 g6 M hj h d l;obtain⟨us1,g,g',M1,e1,h1,d1,l1⟩:=aBz (c:=c) (g4:=g4) (g5:=g5) (g6:=g6) n9 (j:=j) (us:=us) (M:=M) (by omega) h d l;obtain⟨us2,q1,q2,q3,M2,e2,h2,d2,l2⟩:=ih (j+1) us1 (some (I j)) g g' M1 (by omega) h1 d1 l1;refine⟨us2,q1,q2,q3,M2,?_,h2,d2,by rwa [show j+(m+1)=j+1+m by omega]⟩;rw[DD,show((j:Nat):Int)+1=((j+1:Nat):Int)by omega];unfold kZ;rw[show hName 4 (I j) [some (.c s),some (I n),some (I c),some (.d (.list (aO us))),g4,g5,g6] M=some ([some (.c s),some (I n),some (I c),some (.d (.list (aO us))),some (I j),g5,g6],M)from rfl,A1,e1,A1];exact e2
theorem aGT(h:Stm M s)(n1:1<=n)(n9:n<=9):∃us M',nF [.c s,I n] M=some (.d (.list (aO us)),M')/\Stm M' s/\Ok n us/\us.length<=36:=by
 obtain⟨c,M1,e1,c0,c1,m1⟩:=fS (m:=4) h (by decide) (by decide);obtain⟨us,g,g',g'',M2,e2,h2,d2,l2⟩:=outer (s:=s) (n:=n) (c:=c) n9 n.toNat 0 [] none none none M1 (by omega) (m1.stm h) ⟨fun t ht=>(by cases ht),J9⟩ (A7 _);have e2:kZ (hName 4) fN (jP 0 n.toNat) [some (.c s),some (I n),some (I c),some (.d (.list [])),none,none,none] M1=_:=e2
 have t9:tri (0+n.toNat)<=36:=by
  obtain⟨k,hk⟩:∃k,n.toNat=k:=⟨_,rfl⟩;rw[hk];have:k=0\/k=1\/k=2\/k=3\/k=4\/k=5\/k=6\/k=7\/k=8\/k=9:=by omega
  rcases this with rfl|rfl|rfl|rfl|rfl|rfl|rfl|rfl|rfl|rfl<;>decide
 refine⟨us,M2,?_,h2,⟨fun t ht=>(d2.ok t ht).1,d2.nd,by omega⟩,by omega⟩
 have sm:fV n=true:=by
  simp only[fV,Bool.and_eq_true,decide_eq_true_eq];omega
 have z0:(0:Nat)<=sizeLine:=D6 _;simp![nF,sV,uC,kH,e1,z0,sm,e2]
noncomputable def fE(t:Tie):List PyData:=[.int t.i,.tuple [.int t.a,.int t.b]]
noncomputable def aU(es:List Tie):List PyData:=es.map fun t=>.tuple (fE t)
theorem eF(es:List Tie):(aU es).length=es.length:=by unfold aU;rw[A8]
theorem aBh{n p N:Int}{g4:Option CD}(h:Stm M s)(h64:es.length<64):
 ∃es' g M',fJ [some (.c s),some (I n),some (.d (.list (aU es))),some (I p),g4] M=some (.nx [some (.c s),some (I n),some (.d (.list (aU es'))),some (I p),g],M')/\Stm M' s/\Kp s M M'/\(es'=es\/∃a b,fR a b=true/\es'.Perm (⟨p,N,a,b⟩::es)):=by
 obtain⟨r,M1,e1,r0,r1,n1⟩:=fS (m:=3) h (by decide) (by decide);have h1:=n1.stm h;by_cases q:r > 0
 .have ln:gP [.d (.list (aU es))] M1=some (I es.length,M1):=by
   unfold gP;dsimp only;rw[show aW (.list (aU es))=some (aU es)from rfl,A1,eF]
  obtain⟨k,M2,e2,k0,k1,n2⟩:=fS (m:=(es.length:Int)+1) h1 (by omega) (by
   have:(2:Int) ^ 200=1606938044258990275541962092341162602522202993782792835301376:=by decide
   omega)
  have h2:=n2.stm h1;obtain⟨a,b,M3,e3,w3,n3⟩:=MV h2;have h3:=n3.stm h2;obtain⟨k,rfl⟩:∃z:Nat,k=(z:Int):=⟨k.toNat,by omega⟩;have kl:k<=(aU es).length:=by rw[eF];omega
  have c1:=PU kl;have c2:=BN kl;have lt:((aU es).take k).length<=es.length:=by rw[J6,eF];omega
  have ld:((aU es).drop k).length<=es.length:=by rw[J7,eF];omega
  have a1:dP (.d (.list ((aU es).take k))) (.d (.list [.tuple [.int p,.tuple [.int a,.int b]]])) M3=some (.d (.list ((aU es).take k++[.tuple [.int p,.tuple [.int a,.int b]]])),M3):=vQ (sz (by rw[A9,C0,O6];omega));have a2:dP (.d (.list ((aU es).take k++[.tuple [.int p,.tuple [.int a,.int b]]]))) (.d (.list ((aU es).drop k))) M3=some (.d (.list ((aU es).take k++[.tuple [.int p,.tuple [.int a,.int b]]]++(aU es).drop k)),M3):=vQ (sz (by rw[A9,A9,C0,O6];omega))
  have er:(aU es).take k++[.tuple [.int p,.tuple [.int a,.int b]]]++(aU es).drop k=aU (es.take k++[⟨p,N,a,b⟩]++es.drop k):=by
   unfold aU;rw[D3,D3,List.map_take,List.map_drop];rfl
  have e3:dB [.c s] M2=some (.d (.tuple [.int a,.int b]),M3):=e3;refine⟨es.take k++[⟨p,N,a,b⟩]++es.drop k,some (I k),M3,?_,h3,(n1.kp.trans n2.kp).trans n3.kp,.inr ⟨a,b,w3,?_⟩⟩
  .rw[<- er];simp![fJ,fSl,hX,qS,e1,decide_eq_true q,ln,mV,e2,slL,aBX,c1,c2,e3,z1,z2,a1,a2]
  .rw[B2];have p:=List.perm_middle (a:=(⟨p,N,a,b⟩:Tie)) (l₁:=es.take k) (l₂:=es.drop k);rw[List.take_append_drop]at p;exact p
 .refine⟨es,g4,M1,?_,h1,n1.kp,.inl rfl⟩;simp![fJ,e1,decide_eq_false q]
structure EOk(n N:Int)(es:List Tie):Prop where
 ok:∀t∈es,fR t.a t.b=true/\0<=t.i/\t.i<n/\t.j=N
 nd:(es.map Tie.key).Nodup
theorem EOk.more{n N:Int}{es':List Tie}(d:EOk p N es)(p0:0<=p)(h:es'=es\/∃a b,fR a b=true/\es'.Perm (⟨p,N,a,b⟩::es)):EOk (p+1) N es'/\es'.length<=es.length+1:=by
 rcases h with rfl|⟨a,b,w,q⟩
 .exact⟨⟨fun t ht=>by obtain⟨x1,x2,x3,x4⟩:=d.ok t ht;exact⟨x1,x2,by omega,x4⟩,d.nd⟩,by omega⟩
 .refine⟨⟨fun t ht=>?_,?_⟩,by rw[q.length_eq,C0];exact A7 _⟩
  .rcases List.mem_cons.mp (q.subset ht)with rfl|ht
   .exact⟨w,p0,by show p<p+1;omega,rfl⟩
   .obtain⟨x1,x2,x3,x4⟩:=d.ok t ht;exact⟨x1,x2,by omega,x4⟩
  .rw[(q.map Tie.key).nodup_iff,C4,Y4];refine⟨fun z=>?_,d.nd⟩;obtain⟨t,ht,e⟩:=List.mem_map.mp z;have e:([.inl t.i,.inl t.j]:List Key)=[.inl p,.inl N]:=e;injection e with e1 e2
   injection e1 with e1
   have:=(d.ok t ht).2.2.1;omega
theorem FV{s:Nat}{n N:Int}:∀(m:Nat)(p:Int)(es:List Tie)(g3 g4:Option CD)(M:Sto),0<=p->Stm M s->EOk p N es->es.length+m<64->
 ∃es' g g' M',kZ (hName 3) fJ (jP p m) [some (.c s),some (I n),some (.d (.list (aU es))),g3,g4] M=some (.nx [some (.c s),some (I n),some (.d (.list (aU es'))),g,g'],M')/\Stm M' s/\Kp s M M'/\EOk (p+m) N es'/\es'.length<=es.length+m
 |0=>fun p es g3 g4 M p0 h d _=>⟨es,g3,g4,M,rfl,h,.refl,by rwa [show p+((0:Nat):Int)=p by omega],A7 _⟩
 |m+1=>fun p es g3 g4 M p0 h d hl=>by
  obtain⟨es1,g,M1,e1,h1,k1,q⟩:=aBh (n:=n) (p:=p) (N:=N) (g4:=g4) h (es:=es) (by omega);obtain⟨d1,l1⟩:=d.more (n:=n) p0 q;obtain⟨es2,g2,g3',M2,e2,h2,k2,d2,l2⟩:=FV (n:=n) m (p+1) es1 (some (I p)) g M1 (by omega) h1 d1 (by omega);refine⟨es2,g2,g3',M2,?_,h2,k1.trans k2,by rwa [show p+((m+1:Nat):Int)=p+1+(m:Nat)by omega],by omega⟩;rw[DD];unfold kZ;simp only[hName,List.set_cons_zero,List.set_cons_succ,List.length_cons,Option.bind_some,e1];exact e2
theorem aCl{N:Int}(h:Stm M s)(n1:1<=n)(n9:n<=9):∃es M',jZ [.c s,I n] M=some (.d (.list (aU es)),M')/\Stm M' s/\Kp s M M'/\EOk n N es/\es.length<=9:=by
 obtain⟨es,g,g',M2,e2,h2,k2,d2,l2⟩:=FV (s:=s) (n:=n) (N:=N) n.toNat 0 [] none none M (by omega) h ⟨fun t ht=>(by cases ht),J9⟩ (by simp only[List.length_nil];omega);rw[show(0:Int)+(n.toNat:Int)=n by omega]at d2;have e2:kZ (hName 3) fJ (jP 0 n.toNat) [some (.c s),some (I n),some (.d (.list [])),none,none] M=_:=e2;refine⟨es,M2,?_,h2,k2,d2,by simp only[List.length_nil]at l2;omega⟩;have sm:fV n=true:=LJ (by omega) (by omega);have z0:(0:Nat)<=sizeLine:=D6 _;simp![jZ,sJ,uC,kH,z0,sm,e2]
theorem OP{M:Sto}{n:Int}:∀{us:List Tie},(∀t∈us,TOk n t)->Paired (tK M n) ((aO us).map .d) us
 |[]=>fun _=>.nil
 |t::us=>fun h=>.cons ⟨h t B3,.inl ⟨_,rfl,rfl⟩⟩ (OP fun s hs=>h s (B1 _ hs))
theorem IT(h:Paired (tK M n) (ds.map .d) us):EW M n (.d (.list ds)) us:=
 ⟨ds.map .d,fun _=>True,fun _=>rfl,fun _=>True.intro,fun _=>jA _ _,h⟩
theorem MN:∀{xs:List CD}{ds:List PyData},iQ xs=some ds->xs=ds.map .d
 |[],ds=>fun h=>by cases h;rfl
 |.d x::r,ds=>fun h=>by
  have h:(iQ r).map (x::·)=some ds:=h;cases e:iQ r with
  |none=>rw[e]at h;cases h
  |some es=>rw[e]at h;cases h;rw[MN e];rfl
 |.c _::_,ds=>fun h=>by cases h
 |.t _::_,ds=>fun h=>by cases h
 |.f _::_,ds=>fun h=>by cases h
theorem vO{M:Sto}{n:Int}:∀{zs:List CD}{us:List Tie},Paired (tK M n) zs us->∃ds,cM 4 M zs=some ds
 |_,_,.nil=>⟨[],by unfold cM;rfl⟩
 |_,_,.cons (a:=z) (b:=t) (l₁:=zs) (l₂:=us) r1 r2=>by
  obtain⟨ds,h⟩:=vO r2
  obtain⟨d,hd⟩:∃d,snap 4 M z=some d:=by
   obtain⟨_,⟨w,rfl,_⟩|⟨m,rfl,hm⟩⟩:=r1
   .exact⟨_,eP⟩
   .refine⟨.tuple [.int t.i,.int t.j,.list [.int t.a,.int t.b]],?_⟩;unfold snap;simp only[List.map_cons,List.map_nil,cdA,cM,eP,Option.bind_some];unfold snap;rw[hm];simp only[cM,eP,Option.bind_some]
  exact⟨d::ds,by unfold cM;rw[hd,A1,h];rfl⟩
theorem aCJ{k:Nat}{ys:List CD}(hk:M[k]?=some (.lst ys))(hp:Paired (tK M n) (ys++ds.map .d) us)(hl:ys.length+ds.length<=200):
 ∃y L,vX (.c k) (.d (.list ds)) M=some (y,M++L)/\EW (M++L) n y us:=by
 have a0:YY (.c k) (.d (.list ds)) M=none:=rfl;cases e:iQ (ys++ds.map .d)with
 |some es=>
  have ei:=MN e
  have len:es.length<=sizeLine:=by
   have:=O2 List.length ei;rw[A9,A8,A8]at this;exact sz (by omega)
  have c:FQ (.c k) (.d (.list ds)) M=some (.d (.list es),M):=by
   unfold FQ;simp only[qT,hk,Option.bind_some,e,if_pos len]
  refine⟨.d (.list es),[],?_,?_⟩
  .rw[C5];unfold vX dP BG;rw[a0];dsimp only;rw[c]
  .rw[C5];exact IT (by rw[<- ei];exact hp)
 |none=>
  have c:FQ (.c k) (.d (.list ds)) M=none:=by
   unfold FQ;simp only[qT,hk,Option.bind_some,e];rfl
  have c3:dP (.c k) (.d (.list ds)) M=none:=by
   unfold dP BG;rw[a0];dsimp only;rw[c];rfl
  have c2:JS (.c k) (.d (.list ds)) M=some (.c M.length,M++[.lst (ys++ds.map .d)]):=by
   unfold JS;simp only[qT,hk,Option.bind_some];rw[A3 (sz (by rw[A8];omega))]
  refine⟨.c M.length,[.lst (ys++ds.map .d)],?_,?_⟩
  .unfold vX;show(match dP (.c k) (.d (.list ds)) M with|some r=>some r|none=>JS (.c k) (.d (.list ds)) M)=_;rw[c3];exact c2
  .have hp':Paired (tK (M++[.lst (ys++ds.map .d)]) n) (ys++ds.map .d) us:=Paired.mapP hp fun _ _ r=>r.app;obtain⟨es0,h0⟩:=vO hp';refine⟨ys++ds.map .d,fun M'=>M'[M.length]?=some (.lst (ys++ds.map .d)),fun L=>?_,fun L=>tW dF,fun L=>?_,hp'⟩
   .simp only[walked,tW (L:=L) (dF (M:=M) (c:=.lst (ys++ds.map .d)))]
   .obtain⟨es1,h1⟩:=vO (Paired.mapP hp' fun _ _ r=>r.app (L:=L))
    have rd:Rds (M++[.lst (ys++ds.map .d)]++L) (.c M.length) (.list es1):=by
     unfold Rds snap;rw[tW dF];show(cM 4 _ _).bind _=_;rw[h1];rfl
    rw[xR rd];rfl
theorem ix2{p u v:PyData}(h:aW p=some [u,v])(M:Sto):ixF (.d p) (I 0) M=some (.d u,M)/\ixF (.d p) (I 1) M=some (.d v,M):=by
 cases p<;>first|(cases h;exact⟨rfl,rfl⟩)|cases h
noncomputable def WV(M:Sto)(z:CD)(t:Tie):Prop:=(∃p w,z=.d p/\aW p=some [.int t.i,w]/\aW w=some [.int t.a,.int t.b])\/∃r m,z=.c r/\M[r]?=some (.lst [I t.i,.c m])/\M[m]?=some (.lst [I t.a,I t.b])
theorem aEb{r:Nat}{i:Int}(h:M[r]?=some (.lst [I i,.c m]))(hm:M[m]?=some (.lst [I a,I b])):Rds M (.c r) (.list [.int i,.list [.int a,.int b]]):=by
 unfold Rds snap;rw[h];simp only[cM,eP,Option.bind_some];unfold snap;rw[hm];simp only[cM,eP,Option.bind_some]
theorem aJi{N:Int}{t:Tie}(h:WV M z t)(ok:TOk n t)(hj:t.j=N):∃y,dZ [I N,z] M=some (y,M)/\tK M n y t:=by
 rcases h with⟨p,w,rfl,hp,hw⟩|⟨r,m,rfl,hr,hm⟩
 .have r2:cW [.d p,I 2] M=some (B true,M):=kJ 2 (ds:=[.int t.i,w]) Rds.d hp;obtain⟨x0,x1⟩:=ix2 hp M;refine⟨.d (.tuple [.int t.i,.int t.j,w]),?_,ok,.inl ⟨_,rfl,hw⟩⟩;have tp:GA [I t.i,I N,.d w]=some (.d (.tuple [.int t.i,.int N,w])):=rfl;simp![dZ,lP,GQ,r2,x0,x1,z3,tp,hj]
 .have r2:cW [.c r,I 2] M=some (B true,M):=kJ 2 (aEb hr hm) rfl;have x0:=aGa hr;have x1:=aIi hr;refine⟨.t [.inl (.int t.i),.inl (.int t.j),.inr m],?_,ok,.inr ⟨m,rfl,hm⟩⟩;have tp:GA [I t.i,I N,.c m]=some (.t [.inl (.int t.i),.inl (.int N),.inr m]):=rfl;simp![dZ,lP,GQ,r2,x0,x1,z3,tp,hj]
section
variable{M:Sto}{w:Nat}{n:Int}{vs:List Tie}
theorem LY(h:bZ M w n vs){P:Sto->Prop}(hP:P M):∀{zs:List CD}{es:List Tie}(s:Option CD),Paired (WV M) zs es->(∀t∈es,TOk (n+1) t/\t.j=n)->
 ∃ys,lcP P (hName 1) iD (aK dZ (aB (cV "Web" "many" (aD 0)) (aB (aD 1) aI))) zs [some (.c w),s] M=some (ys,M)/\Paired (tK M (n+1)) ys es
 |_,_,s,.nil=>fun _=>⟨[],by unfold lcP;rw[A3 hP],.nil⟩
 |_,_,s,.cons (a:=z) (b:=t) (l₁:=zs) (l₂:=es) r1 r2=>fun ok=>by
  obtain⟨ys,ih,ip⟩:=LY h hP (some z) r2 fun u hu=>ok u (B1 _ hu);obtain⟨o1,o2⟩:=ok t B3;obtain⟨y,e,hy⟩:=aJi r1 o1 o2;have m1:=h.many (γ:=[some (.c w),some z]) (f:=aD 0) rfl;refine⟨y::ys,?_,.cons hy ip⟩
  have fc:aK dZ (aB (cV "Web" "many" (aD 0)) (aB (aD 1) aI)) [some (.c w),some z] M=some (y,M):=by
   simp![m1,e]
  unfold lcP;rw[A3 hP,show hName 1 z [some (.c w),s] M=some ([some (.c w),some z],M)from rfl,A1];dsimp only;rw[show iD [some (.c w),some z] M=some (true,M)from rfl,A1];dsimp only;rw[A3 rfl,fc,A1];dsimp only;rw[ih,A1]
structure ON(M:Sto)(x:CD)(es:List Tie):Prop where
 ex:∃zs P,walked M x=some (zs,P)/\P M/\gZ [x] M=some (B true,M)/\Paired (WV M) zs es
theorem JF(h:bZ M w n vs)(hx:ON M x es)(he:EOk n n es)(hv:∀t∈vs.filter big,TOk n t)(nd:((vs.filter big).map Tie.key).Nodup)(el:es.length<=13)(vl:(vs.filter big).length<=50)(n1:1<=n)(n40:n<40):
 ∃L w' vs',bF [.c w,x] M=some (.v (.c w'),M++L)/\bZ (M++L) w' (n+1) vs'/\vs'.Perm (es++vs.filter big)/\vs'.Pairwise Tie.lt/\M.length<=w':=by
 obtain⟨zs,P,hw,hP,hr,hp⟩:=hx.ex
 have eok:∀t∈es,TOk (n+1) t/\t.j=n:=fun t ht=>by
  obtain⟨x1,x2,x3,x4⟩:=he.ok t ht;exact⟨⟨x1,x2,by omega,by omega⟩,x4⟩
 obtain⟨ys,ec,yp⟩:=LY h hP none hp eok;have yl:ys.length=es.length:=Paired.len yp;have zl:zs.length=es.length:=Paired.len hp
 have cp:bP [some (.c w),some x] M=some (.c M.length,M++[.lst ys]):=by
  have it:iT (aD 1) [some (.c w),some x] M=some ((zs,P),M):=by
   simp only[iT,aD,List.getElem?_cons_succ,List.getElem?_cons_zero,Option.bind_some,hw]
  unfold bP aBD wG PB;rw[it,A1];dsimp only;rw[A3 (sz (by omega)),show sM [some 0,none] [some (CD.c w),some x]=[some (.c w),none]from rfl,ec,A1];dsimp only;rw[A3 (sz (by omega))]
 have vok:∀t∈vs.filter big,TOk (n+1) t:=fun t ht=>by
  obtain⟨x1,x2,x3,x4⟩:=hv t ht;exact⟨x1,x2,x3,by omega⟩
 have web1:=h.up (L:=[.lst ys])
 have tl:aK mP (aB (cV "Web" "ties" (aD 0)) aI) [some (.c w),some x] (M++[.lst ys])=some (.d (.list (aO (vs.filter big))),M++[.lst ys]):=by
  have t1:=web1.ties (γ:=[some (.c w),some x]) (f:=aD 0) rfl;have l1:mP [.d (.tuple (bY vs))] (M++[.lst ys])=some (.d (.list (bY vs)),M++[.lst ys]):=rfl;simp![t1,l1];rfl
 have pr:Paired (tK (M++[.lst ys]) (n+1)) (ys++(aO (vs.filter big)).map .d) (es++vs.filter big):=Paired.app (Paired.mapP yp fun _ _ r=>r.app) (OP vok);obtain⟨y,L1,ea,ht⟩:=aCJ (dF (M:=M) (c:=.lst ys)) pr (by rw[dD];omega);have m1:=h.many (γ:=[some (.c w),some x]) (f:=aD 0) rfl
 have nd2:((es++vs.filter big).map Tie.key).Nodup:=by
  rw[D3,O8];refine⟨he.nd,nd,fun k hk k' hk' e=>?_⟩;obtain⟨t,ht,rfl⟩:=List.mem_map.mp hk;obtain⟨u,hu,rfl⟩:=List.mem_map.mp hk';have e:([.inl t.i,.inl t.j]:List Key)=[.inl u.i,.inl u.j]:=e;injection e with e1 e2
  injection e2 with e2 _
  injection e2 with e2
  have:=(eok t ht).2;have:=(hv u hu).2.2.2;omega
 have hf:(aB (fOp dP (cV "Web" "many" (aD 0)) (fC (.int 1))) (aB (fOp vX bP (aK mP (aB (cV "Web" "ties" (aD 0)) aI))) aI)) [some (.c w),some x] M=some ([I (n+1),y],M++[.lst ys]++L1):=by
  have o1:fOp dP (cV "Web" "many" (aD 0)) (fC (.int 1)) [some (.c w),some x] M=some (I (n+1),M):=by
   simp![m1,mV]
  have o2:fOp vX bP (aK mP (aB (cV "Web" "ties" (aD 0)) aI)) [some (.c w),some x] M=some (y,M++[.lst ys]++L1):=by
   unfold fOp;rw[cp,A1];dsimp only;rw[tl,A1];exact ea
  show(fOp dP (cV "Web" "many" (aD 0)) (fC (.int 1)) [some (.c w),some x] M).bind _=_;rw[o1,A1];show((fOp vX bP _ [some (.c w),some x] M).bind _).bind _=_;rw[o2];rfl
 obtain⟨vs',pm,pw,ew⟩:=aBA hf ht nd2 (by rw[A9];omega) (by omega) (by omega);refine⟨[Cell.lst ys]++L1++uD (M++[Cell.lst ys]++L1).length (n+1) (es++vs.filter big) vs',(M++[Cell.lst ys]++L1).length,vs',?_,?_,pm,pw,by rw[A9,A9];omega⟩
 .have n4:(n==40)=false:=by simp;omega
  have em:M++([Cell.lst ys]++L1++uD (M++[Cell.lst ys]++L1).length (n+1) (es++vs.filter big) vs')=M++[.lst ys]++L1++uD (M++[Cell.lst ys]++L1).length (n+1) (es++vs.filter big) vs':=by simp
  rw[em];simp![bF,gM,m1,rA,n4,hr,ew]
 .have:=mC (M:=M++[.lst ys]++L1) (L:=[]) (n:=n+1) (us:=es++vs.filter big) (vs:=vs');rw[C5]at this;have em:M++([Cell.lst ys]++L1++uD (M++[Cell.lst ys]++L1).length (n+1) (es++vs.filter big) vs')=M++[.lst ys]++L1++uD (M++[Cell.lst ys]++L1).length (n+1) (es++vs.filter big) vs':=by simp
  rw[em];exact this
end
noncomputable def lay:Nat->List Tie->Sto
 |_,[]=>[]
 |b,t::us=>.lst [I t.a,I t.b]::.lst [I t.i,.c b]::lay (b+2) us
noncomputable def cX:Nat->List Tie->List CD
 |_,[]=>[]
 |b,_::us=>.c (b+1)::cX (b+2) us
theorem nH:∀(b:Nat)(us:List Tie),(lay b us).length=2*us.length
 |_,[]=>rfl
 |b,t::us=>by simp only[lay,List.length_cons,nH (b+2) us];omega
theorem vH:∀(b:Nat)(us:List Tie),(cX b us).length=us.length
 |_,[]=>rfl
 |b,t::us=>by simp only[cX,List.length_cons,vH (b+2) us]
theorem aCD{k:Nat}(h:k<=1000):k<=sizeLine:=by rw[E1];omega
theorem GV(n:Nat)(a:Int)(M:Sto):bI (n+1) [I a] M=some (I a,M):=by
 have s:snap 5 M (I a)=some (.int a):=eP;have q:nO "tuple" (.int a)=false:=rfl;simp![bI,gI,oZ,s,q]
theorem OT(n:Nat)(a b:Int)(M:Sto):bI (n+2) [.d (.tuple [.int a,.int b])] M=some (.c M.length,M++[.lst [I a,I b]]):=by
 have s:snap 5 M (.d (.tuple [.int a,.int b]))=some (.tuple [.int a,.int b]):=eP;have q:nO "tuple" (.tuple [.int a,.int b])=true:=rfl;have it:cP (aD 0) [some (.d (.tuple [.int a,.int b]))] M=some ([I a,I b],M):=rfl;have z:(2:Nat)<=sizeLine:=aCD (by decide)
 have c:dQ (bI (n+1)) [some (.d (.tuple [.int a,.int b]))] M=some (.c M.length,M++[.lst [I a,I b]]):=by
  simp![dQ,WK,wG,pE,it,sM,lcF,iD,GV,z]
 unfold bI;simp![gI,oZ,s,q,c]
theorem XF(n:Nat)(t:Tie)(M:Sto):bI (n+3) [.d (.tuple (fE t))] M=some (.c (M.length+1),M++[.lst [I t.a,I t.b],.lst [I t.i,.c M.length]]):=by
 have s:snap 5 M (.d (.tuple (fE t)))=some (.tuple (fE t)):=eP;have q:nO "tuple" (.tuple (fE t))=true:=rfl;have it:cP (aD 0) [some (.d (.tuple (fE t)))] M=some ([I t.i,.d (.tuple [.int t.a,.int t.b])],M):=rfl;have z:(2:Nat)<=sizeLine:=aCD (by decide)
 have c:dQ (bI (n+2)) [some (.d (.tuple (fE t)))] M=some (.c (M.length+1),M++[.lst [I t.a,I t.b],.lst [I t.i,.c M.length]]):=by
  simp![dQ,WK,wG,pE,it,sM,lcF,iD,GV,OT,z];rw[A9,B2];rfl
 unfold bI;simp![gI,oZ,s,q,c]
theorem CW(n:Nat):∀(us:List Tie)(g:Option CD)(M:Sto),lcF (hName 0) iD (aK (bI (n+3)) (aB (aD 0) aI)) ((aU us).map .d) [g] M=some (cX M.length us,M++lay M.length us)
 |[]=>fun g M=>by simp only[lay,List.append_nil];rfl
 |t::us=>fun g M=>by
  have ih:=CW n us (some (.d (.tuple (fE t)))) (M++[.lst [I t.a,I t.b],.lst [I t.i,.c M.length]]);have l:(M++[Cell.lst [I t.a,I t.b],.lst [I t.i,.c M.length]]).length=M.length+2:=by rw[A9];rfl
  rw[l]at ih;show lcF _ _ _ (.d (.tuple (fE t))::(aU us).map .d) [g] M=_;unfold lcF;simp![iD,XF,ih];rw[B2];rfl
theorem aDB(us:List Tie)(M:Sto)(h64:us.length<64):bI 4 [.d (.tuple (aU us))] M=some (.c (M.length+2*us.length),M++(lay M.length us++[.lst (cX M.length us)])):=by
 have s:snap 5 M (.d (.tuple (aU us)))=some (.tuple (aU us)):=eP;have q:nO "tuple" (.tuple (aU us))=true:=rfl;have it:cP (aD 0) [some (.d (.tuple (aU us)))] M=some ((aU us).map .d,M):=rfl;have z:((aU us).map CD.d).length<=sizeLine:=aCD (by rw[A8];unfold aU;rw[A8];omega)
 have c:dQ (bI 3) [some (.d (.tuple (aU us)))] M=some (.c (M.length+2*us.length),M++(lay M.length us++[.lst (cX M.length us)])):=by
  unfold dQ WK wG pE;rw[it,A1];dsimp only;rw[A3 z,show sM [none] [some (CD.d (.tuple (aU us)))]=[none]from rfl,CW 0 us none M,A1];dsimp only;rw[A3 (aCD (by rw[vH];omega)),A9,nH,B2]
 unfold bI;simp![gI,oZ,s,q,c]
noncomputable def lf2(t:Tie):PyData:=.list [.int t.i,.list [.int t.a,.int t.b]]
theorem aAn:∀(us:List Tie)(b:Nat)(M L:Sto),M.length=b->cM 4 (M++(lay b us++L)) (cX b us)=some (us.map lf2)
 |[]=>fun _ _ _ _=>by simp only[cX,cM,List.map_nil]
 |t::us=>fun b M L h=>by
  have ih:=aAn us (b+2) (M++[.lst [I t.a,I t.b],.lst [I t.i,.c b]]) L (by rw[A9,h];rfl);rw[B2]at ih;have ih:cM 4 (M++(lay b (t::us)++L)) (cX (b+2) us)=some (us.map lf2):=ih;have a0:(M++(lay b (t::us)++L))[b]?=some (.lst [I t.a,I t.b]):=by rw[<- h,C6 (A7 _),J5];rfl
  have a1:(M++(lay b (t::us)++L))[b+1]?=some (.lst [I t.i,.c b]):=by rw[<- h,C6 (S7 _ _),O0];rfl
  have e:snap 4 (M++(lay b (t::us)++L)) (.c (b+1))=some (lf2 t):=by
   simp only[snap,cM,a0,a1,Option.bind_some];rfl
  unfold cX cM;rw[e,A1,ih];rfl
theorem XA(us:List Tie)(M L:Sto):Rds (M++(lay M.length us++[.lst (cX M.length us)])++L) (.c (M.length+2*us.length)) (.list (us.map lf2)):=by
 have a0:(M++(lay M.length us++[.lst (cX M.length us)])++L)[M.length+2*us.length]?=some (.lst (cX M.length us)):=by
  rw[B2,C6 (S7 _ _),O0,B2,C6 (by rw[nH];omega),nH,J5];rfl
 have e:cM 4 (M++(lay M.length us++[.lst (cX M.length us)])++L) (cX M.length us)=some (us.map lf2):=by
  have:=aAn us M.length M ([.lst (cX M.length us)]++L) rfl;rw[B2,B2];exact this
 unfold Rds snap;rw[a0];dsimp only;rw[e];rfl
theorem oV{P:Sto->Prop}{b:SF}{xs:List CD}(h:P M)(e:((g x γ M).bind fun r=>b r.1 r.2)=some (.nx γ',M')):uF P g b (x::xs) γ M=uF P g b xs γ' M':=by
 obtain⟨r,h1,h2⟩:=aG e
 conv=>lhs;unfold uF
 rw[A3 h,h1,A1,h2,A1]
theorem EK{P:Sto->Prop}{b:SF}(h:P M):uF P g b [] γ M=some (.nx γ,M):=by
 unfold uF;rw[A3 h]
theorem DS{g:Option CD}:((hName 1 (I a) [some x,g] M).bind fun r=>dR self r.1 r.2)=some (.nx [some x,some (I a)],M):=by
 have s:snap 5 M (I a)=some (.int a):=eP;have q:nO "list" (.int a)=false:=rfl;simp![dR,oZ,s,q]
theorem tP{k:Nat}{g:Option CD}(s:snap 5 M (.c k)=some (.list ds))(e:self [.c k] M=some (.d .none,M')):((hName 1 (.c k) [some x,g] M).bind fun r=>dR self r.1 r.2)=some (.nx [some x,some (.c k)],M'):=by
 have q:nO "list" (.list ds)=true:=rfl;simp![dR,oZ,s,q,e]
noncomputable def KpS(S:Nat->Prop)(M M':Sto):Prop:=M.length<=M'.length/\∀q,q<M.length->¬S q->M'[q]?=M[q]?
theorem xZ{self:FN}{k:Nat}{xs:List CD}{M1:Sto}{S:Nat->Prop}{g:Option CD}(hk:M[k]?=some (.lst xs))(hx:xs.length<=100)(nk:¬S k)(kp:KpS S (M++[.lst xs]) M1)
 (e:uF (fun M'=>M'[M.length]?=some (.lst xs)) (hName 1) (dR self) xs [some (.c k),none] (M++[.lst xs])=some (.nx [some (.c k),g],M1)):
 ∃M',fnF 1 2 (lH self) [.c k] M=some (.d .none,M')/\KpS (fun q=>S q\/q=k) M M':=by
 have lk:k<M.length:=(List.getElem?_eq_some_iff.mp hk).1;have l1:(M++[Cell.lst xs]).length=M.length+1:=by rw[A9];rfl
 have h1:M1[k]?=some (.lst xs):=by rw[kp.2 k (by omega) nk,C1 lk];exact hk
 have h0:(M++[Cell.lst xs])[M.length]?=some (.lst xs):=by rw[C6 (A7 _),J5];rfl
 have ln:ET [.c k] M=some (.c M.length,M++[.lst xs]):=by simp only[ET,hk]
 have wk:walked (M++[.lst xs]) (.c M.length)=some (xs,fun M'=>M'[M.length]?=some (.lst xs)):=by simp only[walked,h0]
 have fp:iT (aK ET (aB (aD 0) aI)) [some (.c k),none] M=some ((xs,fun M'=>M'[M.length]?=some (.lst xs)),M++[.lst xs]):=by
  simp![iT,ln,wk]
 have ty:tyB "list" M1 (.c k)=true:=by simp only[tyB,h1];rfl
 have ap:hV (.c k) [I 0] M1=some (.d .none,M1.set k (.lst (xs++[I 0]))):=by
  simp only[hV,h1];rw[A3 (by rw[E1];omega)]
 refine⟨M1.set k (.lst (xs++[I 0])),?_,?_,?_⟩
 .simp![lH,UN,fp,e,zF,ty,ap]
 .rw[U1];have:=kp.1;omega
 .intro q hq nq;rw[D4 (fun z=>nq (.inr z.symm)),kp.2 q (by omega) (fun z=>nq (.inl z)),C1 hq]
theorem PV(n:Nat){k:Nat}(hk:M[k]?=some (.lst [I a,I b])):∃M',cR (n+1) [.c k] M=some (.d .none,M')/\KpS (fun q=>q=k) M M':=by
 obtain⟨M',e,kp⟩:=xZ (self:=cR n) (S:=fun _=>False) (g:=some (I b)) (M1:=M++[.lst [I a,I b]]) hk (by show 2<=100;decide) (fun z=>z) ⟨A7 _,fun _ _ _=>rfl⟩ (by
  rw[oV dF DS,oV dF DS,EK dF])
 exact⟨M',e,kp.1,fun q h1 h2=>kp.2 q h1 (fun z=>z.elim id h2)⟩
theorem XD(n:Nat){k:Nat}{t:Tie}(hk:M[k]?=some (.lst [I t.a,I t.b]))(hr:M[k+1]?=some (.lst [I t.i,.c k])):∃M',cR (n+2) [.c (k+1)] M=some (.d .none,M')/\KpS (fun q=>q=k\/q=k+1) M M':=by
 have lk:k<M.length:=(List.getElem?_eq_some_iff.mp hk).1;have l1:(M++[Cell.lst [I t.i,.c k]]).length=M.length+1:=by rw[A9];rfl
 have hk':(M++[Cell.lst [I t.i,.c k]])[k]?=some (.lst [I t.a,I t.b]):=by rw[C1 lk];exact hk
 obtain⟨M1,e1,k1⟩:=PV n hk'
 have s:snap 5 (M++[Cell.lst [I t.i,.c k]]) (.c k)=some (.list [.int t.a,.int t.b]):=by
  simp only[snap,cM,hk',Option.bind_some]
 obtain⟨M',e,kp⟩:=xZ (self:=cR (n+1)) (S:=fun q=>q=k) (g:=some (.c k)) (M1:=M1) hr (by show 2<=100;decide) (by omega) k1 (by
  have pe:M1[M.length]?=some (.lst [I t.i,.c k]):=by rw[k1.2 M.length (by omega) (by omega)];exact dF
  rw[oV dF DS,oV dF (tP s e1),EK pe])
 exact⟨M',e,kp⟩
theorem CY(n:Nat){x:CD}{E:Nat}{xs:List CD}:∀(us:List Tie)(b:Nat)(M:Sto)(g:Option CD),M[E]?=some (.lst xs)->b+2*us.length<=E->
 (∀(L:Nat),L<2*us.length->M[b+L]?=(lay b us)[L]?)->
 ∃g' M',uF (fun M'=>M'[E]?=some (.lst xs)) (hName 1) (dR (cR (n+2))) (cX b us) [some x,g] M=some (.nx [some x,g'],M')/\KpS (fun q=>b<=q/\q<b+2*us.length) M M'
 |[]=>fun b M g hE _ _=>⟨g,M,EK hE,A7 _,fun _ _ _=>rfl⟩
 |t::us=>fun b M g hE hb hl=>by
  have lE:E<M.length:=(List.getElem?_eq_some_iff.mp hE).1;rw[C0]at hb;have h0:M[b]?=some (.lst [I t.a,I t.b]):=hl 0 (by rw[C0];omega);have h1:M[b+1]?=some (.lst [I t.i,.c b]):=hl 1 (by rw[C0];omega);obtain⟨M1,e1,k1⟩:=XD n h0 h1
  have s:snap 5 M (.c (b+1))=some (.list [.int t.i,.list [.int t.a,.int t.b]]):=by
   simp only[snap,cM,h0,h1,Option.bind_some]
  obtain⟨g',M',e2,k2⟩:=CY n us (b+2) M1 (some (.c (b+1))) (by rw[k1.2 E lE (by omega)];exact hE) (by omega) (fun L hL=>by
   rw[k1.2 (b+2+L) (by omega) (by omega),show b+2+L=b+(L+2)by omega,hl (L+2) (by rw[C0];omega)];rfl)
  refine⟨g',M',?_,C8 k1.1 k2.1,fun q hq nq=>?_⟩
  .unfold cX;rw[oV hE (tP s e1)];exact e2
  .rw[C0]at nq;rw[k2.2 q (B8 hq k1.1) (by omega),k1.2 q hq (by omega)]
theorem aCF{b:Nat}(h64:us.length<64)(hr:M[b+2*us.length]?=some (.lst (cX b us)))(hl:∀(L:Nat),L<2*us.length->M[b+L]?=(lay b us)[L]?):
 ∃M',cR 4 [.c (b+2*us.length)] M=some (.d .none,M')/\KpS (fun q=>b<=q/\q<=b+2*us.length) M M':=by
 have lk:b+2*us.length<M.length:=(List.getElem?_eq_some_iff.mp hr).1;have l1:(M++[Cell.lst (cX b us)]).length=M.length+1:=by rw[A9];rfl
 obtain⟨g',M1,e1,k1⟩:=CY 1 (x:=.c (b+2*us.length)) (E:=M.length) (xs:=cX b us) us b (M++[.lst (cX b us)]) none dF (by omega) (fun L hL=>by
  rw[C1 (by omega)];exact hl L hL)
 obtain⟨M',e,kp⟩:=xZ (self:=cR 3) hr (by rw[vH];omega) (by omega) k1 e1;exact⟨M',e,kp.1,fun q h1 h2=>kp.2 q h1 (by omega)⟩
theorem eSS{s:Str}:eqX false (.d (.str s)) (.d (.str s)) M=some (B true,M):=by
 show some (B (s==s),M)=_;simp
noncomputable def Sm(i:Int):Prop:=i.natAbs<2 ^ 1900
theorem tI{i:Int}(h0:0<=i)(h:i<=1000000000000):Sm i:=by
 have:(1000000000001:Nat)<=2 ^ 1900:=by decide +kernel
 unfold Sm;omega
noncomputable def Sh(t:Tie):Prop:=Sm t.i/\Sm t.j/\Sm t.a/\Sm t.b
theorem gH{i:Int}(h:Sm i):oks (.int i)=true:=C7 h
theorem aEe{t:Tie}(h:Sh t):oks (.tuple (f2 t))=true:=by
 simp only[f2,oks,eW,Bool.and_true,Bool.and_eq_true];exact⟨gH h.1,gH h.2.1,gH h.2.2.1,gH h.2.2.2⟩
theorem BV:∀{ts:List Tie},(∀t∈ts,Sh t)->eW (aO ts)=true/\kB (aO ts)<=8100*ts.length/\PyData.depthAll (aO ts)<=2
 |[]=>fun _=>⟨rfl,A7 _,by show PyData.depthAll []<=2;simp only[PyData.depthAll];decide⟩
 |t::ts=>fun h=>by
  obtain⟨h1,h2,h3⟩:=BV (ts:=ts) fun s hs=>h s (B1 _ hs);have e:aO (t::ts)=.tuple (f2 t)::aO ts:=rfl;have w:wt (.tuple (f2 t))<=8050:=by simp only[f2,wt,kB];decide
  have d:PyData.depth (.tuple (f2 t))<=2:=by simp only[f2,PyData.depth,PyData.depthAll];decide
  rw[e];refine⟨?_,?_,?_⟩
  .simp only[eW,h1,aEe (h t List.mem_cons_self),Bool.and_true]
  .simp only[kB,List.length_cons];omega
  .simp only[PyData.depthAll];omega
theorem UO{ts:List Tie}(hn:Sm n)(h:∀t∈ts,Sh t)(h64:ts.length<64):Fit 600000 4 (.tuple [.int n,.tuple (aO ts)]):=by
 obtain⟨h1,h2,h3⟩:=BV h;refine⟨?_,?_,?_⟩
 .simp only[oks,eW,h1,Bool.and_true];exact gH hn
 .simp only[wt,kB];omega
 .simp only[PyData.depth,PyData.depthAll];omega
theorem SX{us:List Tie}(ok:∀t∈us,TOk n t)(n40:n<=40):∀t∈us,Sh t:=fun t ht=>by
 obtain⟨a,b,c,d⟩:=ok t ht;obtain⟨a1,a2,a3,a4⟩:=aAd a;exact⟨tI b (by omega),tI (by omega) (by omega),tI a1 a2,tI (by omega) (by omega)⟩
theorem ZQ{ts:List Tie}(h:∀t∈ts,Sh t)(h64:ts.length<64):Fit 600000 4 (.tuple (aO ts)):=by
 obtain⟨h1,h2,h3⟩:=BV h;refine⟨?_,?_,?_⟩
 .simp only[oks,h1]
 .simp only[wt];omega
 .simp only[PyData.depth];omega
structure zC(M:Sto)(w:Nat)(n:Int)(vs us:List Tie):Prop where
 web:bZ M w n vs
 pw:vs.Pairwise Tie.lt
 pm:(vs.filter big).Perm (us.filter big)
 ok:Ok n us
theorem zC.tok{vs:List Tie}(h:zC M w n vs us):∀t∈vs.filter big,TOk n t:=fun t ht=>h.ok.1 t (List.mem_filter.mp (h.pm.subset ht)).1
theorem zC.nd(h:zC M w n vs us):((vs.filter big).map Tie.key).Nodup:=(h.pm.map Tie.key).nodup_iff.mpr (qJ h.ok.2.1)
theorem zC.len(h:zC M w n vs us):(vs.filter big).length<=us.length:=by
 rw[h.pm.length_eq];exact E9 ..
theorem QB{p q:Tie->Bool}:(us.filter p).filter q=(us.filter q).filter p:=by
 rw[List.filter_filter,List.filter_filter];congr 1;funext t;rw[Bool.and_comm]
theorem aHz{t:Tie}(h:Sh t):oks (lf2 t)=true:=by
 simp only[lf2,oks,eW,Bool.and_true,Bool.and_eq_true];exact⟨gH h.1,gH h.2.2.1,gH h.2.2.2⟩
theorem ZW:∀{ts:List Tie},(∀t∈ts,Sh t)->eW (ts.map lf2)=true/\kB (ts.map lf2)<=8100*ts.length/\PyData.depthAll (ts.map lf2)<=2
 |[]=>fun _=>⟨rfl,A7 _,by show PyData.depthAll []<=2;simp only[PyData.depthAll];decide⟩
 |t::ts=>fun h=>by
  obtain⟨h1,h2,h3⟩:=ZW (ts:=ts) fun s hs=>h s (B1 _ hs);have w:wt (lf2 t)<=8050:=by simp only[lf2,wt,kB];decide
  have d:PyData.depth (lf2 t)<=2:=by simp only[lf2,PyData.depth,PyData.depthAll];decide
  rw[C4];refine⟨?_,?_,?_⟩
  .simp only[eW,h1,aHz (h t List.mem_cons_self),Bool.and_true]
  .simp only[kB,List.length_cons];omega
  .simp only[PyData.depthAll];omega
theorem aGK{ts:List Tie}(h:∀t∈ts,Sh t)(h64:ts.length<64):Fit 600000 4 (.list (ts.map lf2)):=by
 obtain⟨h1,h2,h3⟩:=ZW h;refine⟨?_,?_,?_⟩
 .simp only[oks,h1]
 .simp only[wt];omega
 .simp only[PyData.depth];omega
theorem aCb{vs':List Tie}(pm:(vs.filter big).Perm (us.filter big))(hp:vs'.Perm (es++vs.filter big)):(vs'.filter big).Perm ((us++es).filter big):=by
 have h1:=hp.filter big;rw[List.filter_append,List.filter_filter,show(fun a=>big a&&big a)=big from by funext a;rw[Bool.and_self]]at h1;rw[List.filter_append];exact(h1.trans (List.Perm.append_left _ pm)).trans List.perm_append_comm
theorem EOk.tok{es:List Tie}(h:EOk n n es):∀t∈es,TOk (n+1) t:=fun t ht=>by
 obtain⟨x1,x2,x3,x4⟩:=h.ok t ht;exact⟨x1,x2,by omega,by omega⟩
theorem aDj(ok:Ok n us)(he:EOk n n es)(hl:us.length+es.length<64):Ok (n+1) (us++es):=by
 refine⟨fun t ht=>?_,?_,by rw[A9];exact hl⟩
 .rcases List.mem_append.mp ht with ht|ht
  .obtain⟨x1,x2,x3,x4⟩:=ok.1 t ht;exact⟨x1,x2,x3,by omega⟩
  .exact he.tok t ht
 .rw[D3,O8];refine⟨ok.2.1,he.nd,fun k hk k' hk' e=>?_⟩;obtain⟨t,ht,rfl⟩:=List.mem_map.mp hk;obtain⟨u,hu,rfl⟩:=List.mem_map.mp hk';have e:([.inl t.i,.inl t.j]:List Key)=[.inl u.i,.inl u.j]:=e;injection e with e1 e2
  injection e2 with e2 _
  injection e2 with e2
  have:=(he.ok u hu).2.2.2;have:=(ok.1 t ht).2.2.2;omega
theorem GW{M:Sto}{w:Nat}{n:Int}{vs:List Tie}(h:bZ M w n vs):∀(es:List Tie)(s1 s2:Option CD),(∀t∈es,t.j=n)->
 lcF (qP 2 (bL (hName 1) (bL (hName 2) kO))) iD (cK (aB (aD 1) (aB (cV "Web" "many" (aD 0)) (aB (aD 2) aI)))) ((aU es).map .d) [some (.c w),s1,s2] M=some ((aO es).map .d,M)
 |[]=>fun _ _ _=>rfl
 |t::es=>fun s1 s2 ht=>by
  have ih:=GW h es (some (I t.i)) (some (.d (.tuple [.int t.a,.int t.b]))) fun u hu=>ht u (B1 _ hu);have m1:=h.many (γ:=[some (.c w),some (I t.i),some (.d (.tuple [.int t.a,.int t.b]))]) (f:=aD 0) rfl
  have e1:cK (aB (aD 1) (aB (cV "Web" "many" (aD 0)) (aB (aD 2) aI))) [some (.c w),some (I t.i),some (.d (.tuple [.int t.a,.int t.b]))] M=some (.d (.tuple (f2 t)),M):=by
   have hj:=ht t B3;simp![f2,hj,m1,z3]
  show lcF _ _ _ (.d (.tuple (fE t))::(aU es).map .d) [some (.c w),s1,s2] M=_;unfold lcF;rw[show qP 2 (bL (hName 1) (bL (hName 2) kO)) (.d (.tuple (fE t))) [some (.c w),s1,s2] M=some ([some (.c w),some (I t.i),some (.d (.tuple [.int t.a,.int t.b]))],M)from rfl,A1];dsimp only;rw[show iD [some (.c w),some (I t.i),some (.d (.tuple [.int t.a,.int t.b]))] M=some (true,M)from rfl,A1];dsimp only;rw[A3 rfl,e1,A1];dsimp only;rw[ih,A1];rfl
theorem JR{M:Sto}:∀es:List Tie,Paired (WV M) ((aU es).map .d) es
 |[]=>.nil
 |t::es=>.cons (.inl ⟨_,_,rfl,rfl,rfl⟩) (JR es)
theorem aAP{M:Sto}:∀(es:List Tie)(b:Nat),(∀(L:Nat),L<2*es.length->M[b+L]?=(lay b es)[L]?)->Paired (WV M) (cX b es) es
 |[]=>fun _ _=>.nil
 |t::es=>fun b h=>by
  refine .cons (.inr ⟨b+1,b,rfl,h 1 (by rw[C0];omega),h 0 (by rw[C0];omega)⟩) (aAP es (b+2) fun L hL=>?_);rw[show b+2+L=b+(L+2)by omega,h (L+2) (by rw[C0];omega)];rfl
theorem aGh(h:zC M w n vs us)(he:EOk n n es)(el:es.length<=9)(ul:us.length<=36)(n1:1<=n)(n9:n<=9):
 ∃M',nI [.c w,.d (.list (aO us)),.d (.list (aU es))] M=some (B true,M')/\∀(q:Nat)(c:Cell),M[q]?=some c->M'[q]?=some c:=by
 have vl:(vs.filter big).length<=50:=C8 h.len (by omega);have tu:∀K,eY [.d (.list (aU es))] K=some (.d (.tuple (aU es)),K):=fun _=>rfl;have lst:=aDB es M (by omega);have rd:=XA es M;obtain⟨b,hb⟩:∃b,b=M.length:=⟨_,rfl⟩;obtain⟨M1,hM1⟩:∃M1,M1=M++(lay M.length es++[.lst (cX M.length es)]):=⟨_,rfl⟩;have l1:M1.length=M.length+2*es.length+1:=by rw[hM1,A9,A9,nH];simp only[List.length_cons,List.length_nil];omega
 have m1l:∀q,q<2*es.length->M1[M.length+q]?=(lay M.length es)[q]?:=fun q hq=>by
  rw[hM1,C6 (S7 _ _),O0,C1 (by rw[nH];exact hq)]
 have m1r:M1[M.length+2*es.length]?=some (.lst (cX M.length es)):=by
  rw[hM1,C6 (S7 _ _),O0,C6 (by rw[nH];omega),nH,J5];rfl
 rw[<- hM1]at lst;have rd:∀L,Rds (M1++L) (.c (M.length+2*es.length)) (.list (es.map lf2)):=fun L=>by rw[hM1];exact rd L
 have w1:bZ M1 w n vs:=by rw[hM1];exact h.web.up
 have ec1:ON M1 (.d (.tuple (aU es))) es:=⟨(aU es).map .d,fun _=>True,rfl,True.intro,jA _ _,JR es⟩;obtain⟨L1,wa,va,c1,weba,pma,pwa,lwa⟩:=JF w1 ec1 he h.tok h.nd (by omega) vl n1 (by omega)
 have ec2:ON (M1++L1) (.c (M.length+2*es.length)) es:=by
  refine⟨cX M.length es,fun M'=>M'[M.length+2*es.length]?=some (.lst (cX M.length es)),?_,tW m1r,?_,aAP es M.length fun L hL=>?_⟩
  .simp only[walked,tW m1r]
  .rw[xR (rd L1)];rfl
  .rw[C1 (by omega)];exact m1l L hL
 obtain⟨L2,wb,vb,c2,webb,pmb,pwb,lwb⟩:=JF (w1.up (L:=L1)) ec2 he h.tok h.nd (by omega) vl n1 (by omega);have eab:vb=va:=vZ pwb pwa (pmb.trans pma.symm);subst eab;obtain⟨M3,hM3⟩:∃M3,M3=M1++L1++L2:=⟨_,rfl⟩;rw[<- hM3]at c2 webb;have m3:∀q,q<M1.length->M3[q]?=M1[q]?:=fun q hq=>by rw[hM3,B2,C1 hq]
 have weba3:bZ M3 wa (n+1) vb:=by rw[hM3];exact weba.up
 have webM3:bZ M3 w n vs:=by rw[hM3];exact w1.up.up
 obtain⟨M4,e4,k4⟩:=aCF (us:=es) (M:=M3) (b:=M.length) (by omega) (by rw[m3 _ (by omega)];exact m1r) (fun q hq=>by rw[m3 _ (by omega)];exact m1l q hq);have wl:=(List.getElem?_eq_some_iff.mp h.web.2).1;have la:=(List.getElem?_eq_some_iff.mp weba3.2).1;have lb:=(List.getElem?_eq_some_iff.mp webb.2).1;have lw3:=(List.getElem?_eq_some_iff.mp webM3.2).1;rw[A9]at lwb;have x0:bZ M4 w n vs:=⟨by rw[k4.2 _ (by omega) (by omega)];exact webM3.1,by rw[k4.2 _ (by omega) (by omega)];exact webM3.2⟩;have xa:bZ M4 wa (n+1) vb:=⟨by rw[k4.2 _ (by omega) (by omega)];exact weba3.1,by rw[k4.2 _ (by omega) (by omega)];exact weba3.2⟩;have xb:bZ M4 wb (n+1) vb:=⟨by rw[k4.2 _ (by omega) (by omega)];exact webb.1,by rw[k4.2 _ (by omega) (by omega)];exact webb.2⟩;have mok:=aDj h.ok he (by omega);have mpm:=aCb h.pm pma;have vsh:=SX (fun s hs=>mok.1 s (List.mem_filter.mp (mpm.subset hs)).1) (by omega) (us:=vb.filter big);have vlen:(vb.filter big).length<64:=Z1 (by rw[mpm.length_eq];exact E9 ..) mok.2.2;have esh:=SX he.tok (by omega)
 have rp:∀K,gW [.d (.tuple [.int (n+1),.tuple (bY vb)])] K=some (.d (.str (PyData.shown (.tuple [.int (n+1),.tuple (bY vb)]))),K):=fun K=>by
  rw[IM];exact BS (UO (tI (by omega) (by omega)) vsh (by omega)) (by rw[E1];decide)
 have rh:∀L,gW [.c (M.length+2*es.length)] (M1++L)=some (.d (.str (PyData.shown (.list (es.map lf2)))),M1++L):=fun L=>by
  unfold gW;dsimp only;rw[show snap 5 (M1++L) (.c (M.length+2*es.length))=some (.list (es.map lf2))from rd L,A1,A3 ((aGK esh (by omega)).shown (by rw[E1];decide))]
 have rh1:gW [.c (M.length+2*es.length)] M1=some (.d (.str (PyData.shown (.list (es.map lf2)))),M1):=by
  have:=rh [];rwa [C5]at this
 have rh3:gW [.c (M.length+2*es.length)] M3=some (.d (.str (PyData.shown (.list (es.map lf2)))),M3):=by
  rw[hM3,B2];exact rh _
 have cc:oK [some (.c w),some (.d (.list (aO us))),some (.d (.list (aU es))),none,none,none,none,none] M=some (.d (.list (aO es)),M):=by
  unfold oK;exact oH (M1:=M) (xs:=(aU es).map .d) rfl (sz (by rw[A8,eF];omega)) (GW h.web es none none fun t ht=>(he.ok t ht).2.2.2) (sz (by rw[dD];omega))
 have ad:dP (.d (.list (aO us))) (.d (.list (aO es))) M=some (.d (.list (aO (us++es))),M):=by
  rw[vQ (sz (by rw[A9,dD,dD];omega)),show aO us++aO es=aO (us++es)by unfold aO;rw[D3]]
 have du:eT [.d (.list (aO (us++es)))] M=some (.d (.tuple (bY vb)),M):=aAQ mok mpm pwa;have mm:=h.web.many (γ:=[some (.c w),some (.d (.list (aO us))),some (.d (.list (aU es))),none,none,none,none,none]) (f:=aD 0) rfl
 have gm:∀γ:Ga,γ=[some (.c w),some (.d (.list (aO us))),some (.d (.list (aU es))),some (.d (.str (PyData.shown (.tuple [.int (n+1),.tuple (bY vb)])))),some (.c (M.length+2*es.length)),some (.d (.str (PyData.shown (.list (es.map lf2))))),some (.c wa),some (.c wb)]->
  cV "Web" "many" (aD 6) γ M4=some (I (n+1),M4)/\cV "Web" "ties" (aD 6) γ M4=some (.d (.tuple (bY vb)),M4)/\cV "Web" "many" (aD 7) γ M4=some (I (n+1),M4)/\cV "Web" "ties" (aD 7) γ M4=some (.d (.tuple (bY vb)),M4)/\cV "Web" "ties" (aD 0) γ M4=some (.d (.tuple (bY vs)),M4):=by
  rintro γ rfl;exact⟨xa.many rfl,xa.ties rfl,xb.many rfl,xb.ties rfl,x0.ties rfl⟩
 obtain⟨g1,g2,g3,g4,g5⟩:=gm _ rfl
 have rv:gW [.d (.tuple (bY vs))] M4=some (.d (.str (PyData.shown (.tuple (bY vs)))),M4):=by
  rw[IM];exact BS (ZQ (SX h.tok (by omega)) (by omega)) (by rw[E1];decide)
 have dv:eT [.d (.list (aO us))] M4=some (.d (.tuple (bY vs)),M4):=aAQ h.ok h.pm h.pw;refine⟨M4,?_,fun q c hq=>?_⟩
 .simp![nI,sD,mm,mV,cc,ad,du,z2,rp,tu,lst,rh1,c1,c2,rh3,aKy,eSS,e4,g1,g2,g3,g4,g5,rv,dv]
 .have lq:=(List.getElem?_eq_some_iff.mp hq).1;have l3:M1.length<=M3.length:=by rw[hM3,A9,A9];omega
  rw[k4.2 q (by omega) (by omega),m3 q (by omega),hM1,C1 lq];exact hq
noncomputable def ren(p i:Int):Int:=if i > p then i-1 else i
noncomputable def reT(p:Int)(t:Tie):Tie:=⟨ren p t.i,ren p t.j,t.a,t.b⟩
noncomputable def np(p:Int)(t:Tie):Bool:=!(t.i==p)&&!(t.j==p)
theorem aIM{i:Int}:gN [I i,I p] M=some (I (ren p i),M):=by
 unfold ren;by_cases h:i > p
 .have c:decide (i > p)=true:=C7 h;rw[A3 h];simp![gN,lD,c]
 .have c:decide (i > p)=false:=B9 h;rw[A5 h];simp![gN,lD,c]
theorem sub_int{i:Int}:pK (I i) (I (if decide (i > p)then 1 else 0)) M=some (I (ren p i),M):=by
 unfold ren;by_cases h:i > p
 .rw[A3 h,C7 h];rfl
 .rw[A5 h,B9 h];show some (I (i-0),M)=_;rw[Int.sub_zero]
theorem aGX{i:Int}:inD true (I p) (.d (.tuple [.int i,.int j])) M=some (B (!(i==p || (j==p || false))),M):=rfl
theorem aJn{i:Int}:(!(i==p || (j==p || false)))=(!(i==p)&&!(j==p)):=by cases (i==p)<;>cases (j==p)<;>rfl
theorem sT{M:Sto}{g:GF}{c:TF}{e:EF}{p:Tie->Bool}{x:Option CD}(hg:∀t s,g (.d (.tuple (f2 t))) [x,s] M=some ([x,some (.d (.tuple (f2 t)))],M))(hc:∀t,c [x,some (.d (.tuple (f2 t)))] M=some (p t,M))(he:∀t,e [x,some (.d (.tuple (f2 t)))] M=some (.d (.tuple (f2 t)),M)):∀(us:List Tie)(s:Option CD),
 lcF g c e ((aO us).map .d) [x,s] M=some ((aO (us.filter p)).map .d,M)
 |[]=>fun _=>rfl
 |t::us=>fun s=>by
  have ih:=sT hg hc he us (some (.d (.tuple (f2 t))));show lcF _ _ _ (.d (.tuple (f2 t))::(aO us).map .d) [x,s] M=_;unfold lcF;rw[hg,A1];dsimp only;rw[hc,A1];dsimp only;by_cases hb:p t=true
  .rw[A3 hb,he,A1];dsimp only;rw[ih,A1,U4 hb];rfl
  .rw[A5 hb,ih,U5 hb]
theorem CT{M:Sto}{e:EF}{f:Tie->Tie}{x:Option CD}(he:∀t:Tie,e [x,some (I t.i),some (I t.j),some (.d (.tuple [.int t.a,.int t.b]))] M=some (.d (.tuple (f2 (f t))),M)):∀(us:List Tie)(s1 s2 s3:Option CD),
 lcF (qP 3 (bL (hName 1) (bL (hName 2) (bL (hName 3) kO)))) iD e ((aO us).map .d) [x,s1,s2,s3] M=some ((aO (us.map f)).map .d,M)
 |[]=>fun _ _ _=>rfl
 |t::us=>fun s1 s2 s3=>by
  have ih:=CT he us (some (I t.i)) (some (I t.j)) (some (.d (.tuple [.int t.a,.int t.b])));show lcF _ _ _ (.d (.tuple (f2 t))::(aO us).map .d) [x,s1,s2,s3] M=_;unfold lcF;rw[show qP 3 (bL (hName 1) (bL (hName 2) (bL (hName 3) kO))) (.d (.tuple (f2 t))) [x,s1,s2,s3] M=some ([x,some (I t.i),some (I t.j),some (.d (.tuple [.int t.a,.int t.b]))],M)from rfl,A1];dsimp only;rw[show iD [x,some (I t.i),some (I t.j),some (.d (.tuple [.int t.a,.int t.b]))] M=some (true,M)from rfl,A1];dsimp only;rw[A3 rfl,he,A1];dsimp only;rw[ih,A1];rfl
theorem aAN{t:Tie}(h:np p t=true):t.i≠p/\t.j≠p:=by
 unfold np at h;simpa using h
theorem aFw{t:Tie}(ok:TOk n t)(h:np p t=true)(p0:0<=p)(p1:p<n):TOk (n-1) (reT p t):=by
 obtain⟨h1,h2⟩:=aAN h;obtain⟨x1,x2,x3,x4⟩:=ok;refine⟨x1,?_,?_,?_⟩
 .show 0<=ren p t.i;unfold ren;split<;>omega
 .show ren p t.i<ren p t.j;unfold ren;split<;>split<;>omega
 .show ren p t.j<n-1;unfold ren;split<;>omega
theorem aBV{p:Int}:∀{us:List Tie},(us.map Tie.key).Nodup->(∀t∈us,np p t=true)->((us.map (reT p)).map Tie.key).Nodup
 |[]=>fun _ _=>J9
 |t::us=>fun nd h=>by
  rw[C4,Y4]at nd;rw[C4,C4,Y4];refine⟨fun z=>?_,aBV nd.2 fun u hu=>h u (B1 _ hu)⟩;rw[Y8]at z;obtain⟨u,hu,e⟩:=List.mem_map.mp z;have e:([.inl (ren p u.i),.inl (ren p u.j)]:List Key)=[.inl (ren p t.i),.inl (ren p t.j)]:=e;injection e with e1 e2
  injection e2 with e2 _
  injection e1 with e1
  injection e2 with e2
  obtain⟨a1,a2⟩:=aAN (h t B3);obtain⟨b1,b2⟩:=aAN (h u (B1 _ hu));have q1:u.i=t.i:=by unfold ren at e1;split at e1<;>split at e1<;>omega
  have q2:u.j=t.j:=by unfold ren at e2;split at e2<;>split at e2<;>omega
  exact nd.1 (by rw[show t.key=u.key by unfold Tie.key;rw[q1,q2]];exact J4 hu)
theorem PX{p:Int}:∀us:List Tie,(us.map (reT p)).filter big=(us.filter big).map (reT p)
 |[]=>rfl
 |t::us=>by
  rw[C4,List.filter_cons,List.filter_cons,PX us];show(if big t=true then _ else _)=_;split<;>rfl
section
variable{M:Sto}{w:Nat}{n:Int}{vs us:List Tie}
theorem WS(h:zC M w n vs us)(p0:0<=p)(p1:p<n)(n2:2<=n)(n40:n<=40)(ul:us.length<=50):
 ∃L w' vs',cG [.c w,I p] M=some (.v (.c w'),M++L)/\bZ (M++L) w' (n-1) vs'/\vs'.Perm (((vs.filter big).filter (np p)).map (reT p))/\vs'.Pairwise Tie.lt:=by
 have vl:(vs.filter big).length<=50:=C8 h.len ul;have fl:((vs.filter big).filter (np p)).length<=(vs.filter big).length:=E9 ..;have m1:∀g2 g3,cV "Web" "many" (aD 0) [some (.c w),some (I p),g2,g3] M=some (I n,M):=fun _ _=>h.web.many rfl;have pl:=lX n (.int p) M;have pt:plc n (.int p)=true:=by simp only[plc,decide_eq_true p0,decide_eq_true p1,Bool.and_true]
 rw[pt]at pl;have n1:(n==1)=false:=by simp;omega
 have c0:iO [some (.c w),some (I p),none,none] M=some (.d (.list (aO ((vs.filter big).filter (np p)))),M):=by
  unfold iO
  have it:cP (cV "Web" "ties" (aD 0)) [some (.c w),some (I p),none,none] M=some ((aO (vs.filter big)).map .d,M):=by
   unfold cP;rw[h.web.ties rfl];rfl
  refine oH it (sz (by rw[A8,dD];omega)) (sT (x:=some (I p)) (p:=np p) (fun _ _=>rfl) (fun t=>?_) (fun _=>rfl) (vs.filter big) none) (sz (by rw[dD];omega));have x0:ixF (.d (.tuple (f2 t))) (I 0) M=some (I t.i,M):=rfl;have x1:ixF (.d (.tuple (f2 t))) (I 1) M=some (I t.j,M):=rfl;simp![x0,x1,z2,aGX,aJn,np]
 have c1:iL [some (.c w),some (I p),some (.d (.list (aO ((vs.filter big).filter (np p))))),none] M=some (.d (.list (aO (((vs.filter big).filter (np p)).map (reT p)))),M):=by
  unfold iL;refine oH (M1:=M) (xs:=(aO ((vs.filter big).filter (np p))).map .d) rfl (sz (by rw[A8,dD];omega)) (CT (x:=some (I p)) (f:=reT p) (fun t=>?_) _ none none none) (sz (by rw[dD,A8];omega));simp![aIM,z3,f2,reT]
 have ht:EW M (n-1) (.d (.list (aO (((vs.filter big).filter (np p)).map (reT p))))) (((vs.filter big).filter (np p)).map (reT p)):=IT (OP fun t ht=>by
  obtain⟨u,hu,rfl⟩:=List.mem_map.mp ht;obtain⟨hu1,hu2⟩:=List.mem_filter.mp hu;exact aFw (h.tok u hu1) hu2 p0 p1)
 have nd2:=aBV (p:=p) ((List.filter_sublist.map Tie.key).nodup h.nd) (us:=(vs.filter big).filter (np p)) fun t ht=>(List.mem_filter.mp ht).2
 have hf:(aB (fOp pK (cV "Web" "many" (aD 0)) (fC (.int 1))) (aB (aD 3) aI)) [some (.c w),some (I p),some (.d (.list (aO ((vs.filter big).filter (np p))))),some (.d (.list (aO (((vs.filter big).filter (np p)).map (reT p)))))] M=some ([I (n-1),.d (.list (aO (((vs.filter big).filter (np p)).map (reT p))))],M):=by
  simp![m1]
 obtain⟨vs',pm,pw,ew⟩:=aBA hf ht nd2 (by rw[A8];omega) (by omega) (by omega);refine⟨uD M.length (n-1) (((vs.filter big).filter (np p)).map (reT p)) vs',M.length,vs',?_,?_,pm,pw⟩
 .simp only[pK]at ew;simp![cG,fG,m1,pl,rA,n1,c0,c1,ew]
 .have:=mC (M:=M) (L:=[]) (n:=n-1) (us:=((vs.filter big).filter (np p)).map (reT p)) (vs:=vs')
  rwa [C5]at this
theorem aGL(h:zC M w n vs us)(p0:0<=p)(p1:p<n)(n2:2<=n)(n9:n<=9)(ul:us.length<=36):∃L,kM [.c w,.d (.list (aO us)),I p] M=some (B true,M++L):=by
 obtain⟨L,w',vs',e1,web,pm,pw⟩:=WS h p0 p1 n2 (by omega) (by omega);have fl:(us.filter (np p)).length<=us.length:=E9 ..
 have c0:oF [some (.c w),some (.d (.list (aO us))),some (I p),none,none] M=some (.d (.list (aO (us.filter (np p)))),M):=by
  unfold oF;refine oH (M1:=M) (xs:=(aO us).map .d) rfl (sz (by rw[A8,dD];omega)) (sT (x:=some (I p)) (p:=np p) (fun _ _=>rfl) (fun t=>?_) (fun _=>rfl) us none) (sz (by rw[dD];omega));have x0:ixF (.d (.tuple (f2 t))) (I 0) M=some (I t.i,M):=rfl;have x1:ixF (.d (.tuple (f2 t))) (I 1) M=some (I t.j,M):=rfl;cases q:(t.i==p)<;>simp![x0,x1,yZ,q,np,Bool.true_and,Bool.false_and]
 have c1:nW [some (.c w),some (.d (.list (aO us))),some (I p),some (.d (.list (aO (us.filter (np p))))),none] M=some (.d (.list (aO ((us.filter (np p)).map (reT p)))),M):=by
  unfold nW;refine oH (M1:=M) (xs:=(aO (us.filter (np p))).map .d) rfl (sz (by rw[A8,dD];omega)) (CT (x:=some (I p)) (f:=reT p) (fun t=>?_) _ none none none) (sz (by rw[dD,A8];omega));have i1:IL [B (decide (t.i > p))] M=some (I (if decide (t.i > p)then 1 else 0),M):=rfl;have i2:IL [B (decide (t.j > p))] M=some (I (if decide (t.j > p)then 1 else 0),M):=rfl;have g1:gtI (I t.i) (I p) M=some (B (decide (t.i > p)),M):=rfl;have g2:gtI (I t.j) (I p) M=some (B (decide (t.j > p)),M):=rfl;have s1:=sub_int (p:=p) (i:=t.i) (M:=M);have s2:=sub_int (p:=p) (i:=t.j) (M:=M);unfold cK aB fOp aK aD;simp only[aB,aI,List.getElem?_cons_succ,List.getElem?_cons_zero,Option.bind_some,g1,g2,i1,i2,s1,s2,iQ,Option.map_some,List.length_cons,List.length_nil,Nat.reduceAdd,if_pos z3,f2,reT]
 have lok:Ok (n-1) ((us.filter (np p)).map (reT p)):=by
  refine⟨fun t ht=>?_,aBV ((List.filter_sublist.map Tie.key).nodup h.ok.2.1) fun t ht=>(List.mem_filter.mp ht).2,by rw[A8];omega⟩;obtain⟨u,hu,rfl⟩:=List.mem_map.mp ht;obtain⟨hu1,hu2⟩:=List.mem_filter.mp hu;exact aFw (h.ok.1 u hu1) hu2 p0 p1
 have lpm:(vs'.filter big).Perm (((us.filter (np p)).map (reT p)).filter big):=by
  have h1:=pm.filter big;have hb:((vs.filter big).filter (np p)).filter big=(vs.filter big).filter (np p):=List.filter_eq_self.mpr fun t ht=>(List.mem_filter.mp (List.mem_filter.mp ht).1).2;rw[PX,hb]at h1;rw[PX,QB (p:=np p) (q:=big)];exact h1.trans ((h.pm.filter (np p)).map (reT p))
 have du:eT [.d (.list (aO ((us.filter (np p)).map (reT p))))] (M++L)=some (.d (.tuple (bY vs')),M++L):=aAQ lok lpm pw;have vsh:=SX (fun s hs=>lok.1 s (List.mem_filter.mp (lpm.subset hs)).1) (by omega) (us:=vs'.filter big);have vlen:(vs'.filter big).length<64:=Z1 (by rw[lpm.length_eq];exact E9 ..) lok.2.2
 have rp:gW [.d (.tuple [.int (n-1),.tuple (bY vs')])] (M++L)=some (.d (.str (PyData.shown (.tuple [.int (n-1),.tuple (bY vs')]))),M++L):=by
  rw[IM];exact BS (UO (tI (by omega) (by omega)) vsh (by omega)) (by rw[E1];decide)
 have m1:=web.many (γ:=[some (.c w),some (.d (.list (aO us))),some (I p),some (.d (.list (aO ((us.filter (np p)).map (reT p))))),some (.c w')]) (f:=aD 4) rfl;have m2:=web.ties (γ:=[some (.c w),some (.d (.list (aO us))),some (I p),some (.d (.list (aO ((us.filter (np p)).map (reT p))))),some (.c w')]) (f:=aD 4) rfl;have m3:=(h.web.up (L:=L)).many (γ:=[some (.c w),some (.d (.list (aO us))),some (I p),some (.d (.list (aO ((us.filter (np p)).map (reT p))))),some (.c w')]) (f:=aD 0) rfl;refine⟨L,?_⟩;simp![kM,rM,c0,c1,e1,m1,m2,m3,z2,rp,du,eSS]
end
noncomputable def endOf(n:Int)(r:PyData):Option Tie:=match aW r with
 |some [.int i,w]=>match aW w with
  |some [.int a,.int b]=>if 0<=i/\i<n/\fR a b=true then some ⟨i,n,a,b⟩else none
  |_=>none
 |_=>none
theorem XN{w:PyData}(h:fA w=true):∃a b,aW w=some [.int a,.int b]/\fR a b=true:=by
 unfold fA at h;split at h
 .rename_i a b e;exact⟨a,b,e,h⟩
 .cases h
theorem aEw{i:Int}{w:PyData}(hr:aW r=some [.int i,w])(hw:aW w=some [.int a,.int b])(h:0<=i/\i<n/\fR a b=true):endOf n r=some ⟨i,n,a,b⟩:=by
 unfold endOf;rw[hr];dsimp only;rw[hw];dsimp only;rw[A3 h]
theorem pC{t:Tie}(h:endOf n r=some t):∃w,aW r=some [.int t.i,w]/\aW w=some [.int t.a,.int t.b]/\fR t.a t.b=true/\0<=t.i/\t.i<n/\t.j=n:=by
 unfold endOf at h;split at h
 .rename_i i w hr;split at h
  .rename_i a b hw;split at h
   .rename_i c;cases h;exact⟨w,hr,hw,c.2.2,c.1,c.2.1,rfl⟩
   .cases h
  .cases h
 .cases h
theorem aEh(h:cZ r 2=false):endOf n r=none:=by
 cases e:endOf n r with
 |none=>rfl
 |some t=>
  obtain⟨w,hr,_⟩:=pC e;unfold cZ at h;rw[hr]at h;cases h
theorem XY{k:Bool}{p:PyData}:(endOf n (R2' k p q)).isSome=(plc n p&&fA q):=by
 cases e:endOf n (R2' k p q)with
 |some t=>
  obtain⟨w,hr,hw,hv,i0,i1,_⟩:=pC e;rw[eK]at hr;cases hr;have:fA q=true:=by unfold fA;rw[hw];exact hv
  rw[this];simp only[plc,decide_eq_true i0,decide_eq_true i1,Bool.and_true,Option.isSome_some]
 |none=>
  cases h1:plc n p with
  |false=>rfl
  |true=>
   cases h2:fA q with
   |false=>rfl
   |true=>
    obtain⟨i,rfl,i0,i1⟩:=AV h1;obtain⟨a,b,hw,hv⟩:=XN h2;rw[aEw (eK ..) hw ⟨i0,i1,hv⟩]at e;cases e
noncomputable def newD(n:Int)(r:PyData):PyData:=match aW r with
 |some [p,q]=>.tuple [p,.int n,q]
 |_=>.none
theorem SR(h:cZ r 2=false):newD n r=.none:=by
 unfold newD;split
 .rename_i p q e;unfold cZ at h;rw[e]at h;cases h
 .rfl
theorem aBt{k:Bool}{p:PyData}:newD n (R2' k p q)=.tuple [p,.int n,q]:=by
 unfold newD;rw[eK]
theorem aGW(n:Int)(r:PyData)(M:Sto):dZ [I n,.d r] M=some (.d (newD n r),M):=by
 cases h:cZ r 2 with
 |false=>
  rw[SR h];simp![dZ,lP,eD,h]
 |true=>
  obtain⟨k,p,q,rfl⟩:=tY h;obtain⟨x0,x1⟩:=ix2 (eK k p q) M;have tp:GA [.d p,I n,.d q]=some (.d (.tuple [p,.int n,q])):=rfl;rw[aBt];simp![dZ,lP,GQ,eD,h,x0,x1,z3,tp]
theorem VA(r:PyData)(M:Sto)(n0:0<=n):jD [I (n+1),.d (newD n r)] M=some (B (endOf n r).isSome,M):=by
 cases h:cZ r 2 with
 |false=>
  have hn:cZ .none 3=false:=rfl
  have bt:bA [I (n+1),.d .none] M=some (B false,M):=by
   simp![bA,cT,eD,hn]
  rw[SR h,aEh h];simp![jD,oR,bt,Option.isSome_none]
 |true=>
  obtain⟨k,p,q,rfl⟩:=tY h;rw[aBt,XY];have r3:cZ (.tuple [p,.int n,q]) 3=true:=rfl;have x0:ixF (.d (.tuple [p,.int n,q])) (I 0) M=some (.d p,M):=rfl;have x1:ixF (.d (.tuple [p,.int n,q])) (I 1) M=some (I n,M):=rfl;have x2:ixF (.d (.tuple [p,.int n,q])) (I 2) M=some (.d q,M):=rfl;have ul:=aJA (n+1) p (.int n) M;cases hu:ulk (n+1) p (.int n)with
  |false=>
   have hp:plc n p=false:=by
    cases hp:plc n p with
    |false=>rfl
    |true=>
     obtain⟨i,rfl,i0,i1⟩:=AV hp;have ne:(!(i==n))=true:=by simp;omega
     have:ulk (n+1) (.int i) (.int n)=true:=by
      show(plc (n+1) (.int i)&&(plc (n+1) (.int n)&&!(i==n)))=true;rw[ne];simp only[plc,decide_eq_true i0,decide_eq_true n0,decide_eq_true (show i<n+1 by omega),decide_eq_true (show n<n+1 by omega),Bool.and_true]
     rw[this]at hu;cases hu
   have bt:bA [I (n+1),.d (.tuple [p,.int n,q])] M=some (B false,M):=by
    simp![bA,cT,eD,r3,x0,x1,ul,hu]
   rw[hp];simp![jD,oR,bt,Bool.false_and]
  |true=>
   obtain⟨i,rfl,i0,i1⟩:∃i,p=.int i/\0<=i/\i<n:=by
    cases p with
    |int i=>
     have hu:(plc (n+1) (.int i)&&(plc (n+1) (.int n)&&!(i==n)))=true:=hu;simp only[plc,Bool.and_eq_true,decide_eq_true_eq,Bool.not_eq_true',beq_eq_false_iff_ne]at hu;exact⟨i,rfl,hu.1.1,by have:=hu.1.2;have:=hu.2.2;omega⟩
    |_=>cases hu
   have bt:bA [I (n+1),.d (.tuple [.int i,.int n,q])] M=some (B true,M):=by
    have lt:decide (i<n)=true:=C7 i1;simp![bA,cT,eD,r3,x0,x1,ul,hu,lt]
   have hp:plc n (.int i)=true:=by simp only[plc,decide_eq_true i0,decide_eq_true i1,Bool.and_true]
   rw[hp];simp![jD,oR,bt,x2,NM,Bool.true_and]
theorem HH{k:CD}{fl:Str}{F:FN}(hf:fa γ M=some ([k],M))(hF:F [.c M.length,k] (M++[.exc true nm []])=some (.d .none,M++[.exc true nm [(fl,k)]])):jS nm F fa γ M=some (.xc γ ⟨nm,[(fl,k)]⟩,M++[.dead]):=by
 have e1:(M++[Cell.exc true nm [(fl,k)]])[M.length]?=some (.exc true nm [(fl,k)]):=dF;have x1:excOf (M++[Cell.exc true nm [(fl,k)]]) (.c M.length)=some (M.length,true,(nm,([(fl,k)]:List (Str×CD)))):=by unfold excOf;dsimp only;rw[e1]
 have s1:(M++[Cell.exc true nm [(fl,k)]]).set M.length .dead=M++[.dead]:=vL
 have mk:HV nm F fa γ M=some (.c M.length,M++[.exc true nm [(fl,k)]]):=by
  unfold HV;rw[hf,A1];dsimp only;rw[A3 (show([k]:List CD).length<=sizeLine from z1),hF,A1];rfl
 unfold jS;rw[mk,A1];dsimp only;rw[x1,A1];dsimp only;rw[A3 ⟨rfl,rfl⟩,s1]
theorem yU{k:CD}(hf:fa γ M=some ([k],M)):jS "NoTie" fL fa γ M=some (.xc γ ⟨"NoTie",[("at",k)]⟩,M++[.dead]):=by
 refine HH hf ?_;have e0:(M++[Cell.exc true "NoTie" []])[M.length]?=some (.exc true "NoTie" []):=dF;have x0:excOf (M++[Cell.exc true "NoTie" []]) (.c M.length)=some (M.length,true,(("NoTie":Str),([]:List (Str×CD)))):=by unfold excOf;dsimp only;rw[e0]
 have s0:(M++[Cell.exc true "NoTie" []]).set M.length (.exc true "NoTie" [("at",k)])=M++[.exc true "NoTie" [("at",k)]]:=vL;simp![fL,oI,yC,x0,List.isEmpty_nil,true_and,and_self,if_true,s0]
theorem RC{k:CD}(hf:fa γ M=some ([k],M)):jS "TooMany" hW fa γ M=some (.xc γ ⟨"TooMany",[("most",k)]⟩,M++[.dead]):=by
 refine HH hf ?_;have e0:(M++[Cell.exc true "TooMany" []])[M.length]?=some (.exc true "TooMany" []):=dF;have x0:excOf (M++[Cell.exc true "TooMany" []]) (.c M.length)=some (M.length,true,(("TooMany":Str),([]:List (Str×CD)))):=by unfold excOf;dsimp only;rw[e0]
 have s0:(M++[Cell.exc true "TooMany" []]).set M.length (.exc true "TooMany" [("most",k)])=M++[.exc true "TooMany" [("most",k)]]:=vL;simp![hW,kP,yC,x0,List.isEmpty_nil,true_and,and_self,if_true,s0]
theorem UL{t:Tie}:∀{ts:List Tie},(∃s∈ts,s.key=t.key)->(lkC (bB ts) t.key).isSome=true
 |[]=>fun h=>by obtain⟨s,hs,_⟩:=h;cases hs
 |s::ts=>fun h=>by
  unfold lkC bB;rw[C4,List.find?_cons];by_cases e:s.key=t.key
  .rw[C7 e];rfl
  .rw[B9 e];obtain⟨u,hu,eu⟩:=h;rcases List.mem_cons.mp hu with rfl|hu
   .exact absurd eu e
   .exact UL ⟨u,hu,eu⟩
noncomputable abbrev LG(n:Int)(x:CD)(c k:Nat)(r:PyData):Ga:=[some (I n),some x,some (.c c),some (I (k:Nat)),some (.d r)]
theorem YD{k:Nat}(n0:0<=n)(h:endOf n r=none):cA (LG (n+1) x c k (newD n r)) M=some (.xc (LG (n+1) x c k (newD n r)) ⟨"NoTie",[("at",I (k:Nat))]⟩,M++[.dead]):=by
 have rs:=yU (γ:=LG (n+1) x c k (newD n r)) (M:=M) (k:=I (k:Nat)) (fa:=aB (aD 3) aI) rfl;have ti:=VA r M n0;rw[h,Option.isSome_none]at ti;simp![cA,ti,rs]
theorem OR{t:Tie}(h:endOf n r=some t):tK M (n+1) (.d (newD n r)) t:=by
 obtain⟨w,hr,hw,hv,i0,i1,hj⟩:=pC h;refine⟨⟨hv,i0,by omega,by omega⟩,.inl ⟨w,?_,hw⟩⟩;unfold newD;rw[hr,hj]
theorem aBk{x:CD}{k:Nat}{M:Sto}{t:Tie}{ts:List Tie}(h:endOf n r=some t)(hm:∃s∈ts,s.key=t.key):
 cA (LG (n+1) x M.length k (newD n r)) (M++[.dt (bB ts)])=some (.xc (LG (n+1) x M.length k (newD n r)) ⟨"NoTie",[("at",I (k:Nat))]⟩,M++[.dt (bB ts)]++[.dead]):=by
 have rs:=yU (γ:=LG (n+1) x M.length k (newD n r)) (M:=M++[.dt (bB ts)]) (k:=I (k:Nat)) (fa:=aB (aD 3) aI) rfl;obtain⟨ti,x0,x1,y,x2,tu⟩:=(OR (M:=M++[.dt (bB ts)]) h).facts;have hD:(M++[Cell.dt (bB ts)])[M.length]?=some (.dt (bB ts)):=dF;have kk':keysOf [I t.i,I t.j]=some t.key:=rfl;have l2:(Tie.key t).length<=sizeLine:=sz (show 2<=1000 by decide);obtain⟨v,hv'⟩:=Option.isSome_iff_exists.mp (UL hm);have at_:atD (M++[.dt (bB ts)]) (.c M.length) (.inr t.key)=some (some v):=by simp only[atD,hD,hv']
 simp![cA,ti,aBC,EZ,x0,x1,kk',if_pos l2,at_,Option.isSome_some,rs]
noncomputable def fb(n:Int):List PyData->List Int->Nat->Option Nat
 |[],_,_=>none
 |r::l,kn,k=>match endOf n r with
  |none=>some k
  |some t=>if t.i∈kn then some k else fb n l (kn++[t.i]) (k+1)
theorem NN{M:Sto}{n:Int}{x:CD}(n0:0<=n)(rest:List CD){b:Nat}:∀(l:List PyData)(ts:List Tie)(k:Nat)(g3 g4:Option CD),(∀t∈ts,t.j=n)->ts.length+l.length<1000->fb n l (ts.map Tie.i) k=some b->
 ∃γ' L,jG (fun _=>True) (bL (hName 3) (bL (hName 4) kO)) cA k ((l.map (newD n)).map .d++rest) [some (I (n+1)),some x,some (.c M.length),g3,g4] (M++[.dt (bB ts)])=some (.xc γ' ⟨"NoTie",[("at",I (b:Nat))]⟩,M++L)
 |[]=>fun ts k g3 g4 _ _ h=>by cases h
 |r::l=>fun ts k g3 g4 hj hl h=>by
  have g1:bL (hName 3) (bL (hName 4) kO) [.d (.int k),.d (newD n r)] [some (I (n+1)),some x,some (.c M.length),g3,g4] (M++[.dt (bB ts)])=some (LG (n+1) x M.length k (newD n r),M++[.dt (bB ts)]):=rfl
  have go:∀γ e L,cA (LG (n+1) x M.length k (newD n r)) (M++[.dt (bB ts)])=some (.xc γ e,L)->jG (fun _=>True) (bL (hName 3) (bL (hName 4) kO)) cA k (((r::l).map (newD n)).map .d++rest) [some (I (n+1)),some x,some (.c M.length),g3,g4] (M++[.dt (bB ts)])=some (.xc γ e,L):=fun γ e L h=>by
   show jG _ _ _ k (.d (newD n r)::((l.map (newD n)).map .d++rest)) _ _=_;unfold jG;rw[A3 True.intro,g1,A1];dsimp only;rw[h,A1]
  unfold fb at h;cases ht:endOf n r with
  |none=>
   rw[ht]at h;have h:some k=some b:=h;obtain rfl:=D2 h;have tn:=YD (x:=x) (c:=M.length) (k:=k) (M:=M++[.dt (bB ts)]) n0 ht;rw[B2 M]at tn;exact⟨_,_,go _ _ _ (by rw[tn])⟩
  |some t=>
   rw[ht]at h;dsimp only at h;have tj:t.j=n:=by obtain⟨_,_,_,_,_,_,q⟩:=pC ht;exact q
   by_cases hm:t.i∈ts.map Tie.i
   .rw[A3 hm]at h;obtain rfl:=D2 h;obtain⟨s,hs,es⟩:=List.mem_map.mp hm;have tn:=aBk (x:=x) (k:=k) (M:=M) ht ⟨s,hs,by unfold Tie.key;rw[es,hj s hs,tj]⟩;rw[B2 M]at tn;exact⟨_,_,go _ _ _ (by rw[tn])⟩
   .rw[A5 hm]at h
    have nk:∀s∈ts,s.key≠t.key:=fun s hs e=>hm (by
     have e1:(Sum.inl s.i:Key)=.inl t.i:=(List.cons.inj e).1;rw[<- Sum.inl.inj e1];exact J4 hs)
    have turn:=HA (x:=x) (k:=I (k:Nat)) (OR (M:=M++[.dt (bB ts)]) ht) dF nk (by omega);rw[HY]at turn
    obtain⟨γ',L,ih⟩:=NN n0 rest l (ts++[t]) (k+1) (some (I (k:Nat))) (some (.d (newD n r))) (fun s hs=>by
     rcases List.mem_append.mp hs with hs|hs
     .exact hj s hs
     .rw[List.mem_singleton.mp hs];exact tj) (by rw[A9];simp only[List.length_cons,List.length_nil]at hl ⊢;omega) (by rw[D3];exact h)
    refine⟨γ',L,?_⟩;show jG _ _ _ k (.d (newD n r)::((l.map (newD n)).map .d++rest)) _ _=_;unfold jG;rw[A3 True.intro,g1,A1];dsimp only;rw[turn,A1];exact ih
noncomputable abbrev CV(k:CD):Rs:=.x ⟨"NoTie",[("at",k)]⟩
noncomputable abbrev aJK:Rs:=.x ⟨"NoPlace",[]⟩
noncomputable abbrev aIO(k:CD):Rs:=.x ⟨"TooMany",[("most",k)]⟩
theorem XU{b:Nat}(n0:0<=n)(hl:l.length<64)(hb:fb n l [] 0=some b):∃L,eS [I (n+1),.d (.list (l.map (newD n)++ds))] M=some (CV (I (b:Nat)),M++L):=by
 obtain⟨γ',L,lp⟩:=NN (M:=M) (x:=.d (.list (l.map (newD n)++ds))) n0 (ds.map .d) l [] 0 none none (fun _ h=>nomatch h) (by simp only[List.length_nil];omega) hb;have m0:(M++[Cell.dt []])=M++[.dt (bB [])]:=rfl
 have wk:walked (M++[.dt (bB [])]) (.d (.list (l.map (newD n)++ds)))=some ((l.map (newD n)).map .d++ds.map .d,fun _=>True):=by
  rw[<- D3];rfl
 have rw1:iC (.list (l.map (newD n)++ds))=true:=rfl;refine⟨L,?_⟩;simp![eS,mX,jA,rw1,BB,m0,EO,wk,lp]
theorem aAg{d:PyData}{k:CD}(n1:1<=n)(n40:n<=40)(hk:∀N:Sto,∃L,eS [I n,.d d] N=some (CV k,N++L)):∃L,cH [.c M.length,I n,.d d] (M++[.obj "Web" []])=some (CV k,M++L):=by
 have w1:dU [I n] (M++[.obj "Web" []])=some (B true,M++[.obj "Web" []]):=iE _ _;have c1:decide (n<1)=false:=B9 (by omega);have c2:decide (n > 40)=false:=B9 (by omega);have o1:objOf "Web" (M++[.obj "Web" []]) (.c M.length)=some (M.length,[]):=KL;have s1:(M++[Cell.obj "Web" []]).set M.length (.obj "Web" (xH "many" (I n) []))=M++[.obj "Web" [("many",I n)]]:=vL;obtain⟨L,k1⟩:=hk (M++[.obj "Web" [("many",I n)]]);rw[B2]at k1;refine⟨[.obj "Web" [("many",I n)]]++L,?_⟩;generalize ([Cell.obj "Web" [("many",I n)]]++L)=L' at k1 ⊢;simp![cH,mT,w1,c1,c2,FZ,NK,o1,s1,k1,if_true,show(0:Nat)<1000 from by decide]
section
variable{M:Sto}{w:Nat}{n:Int}{vs:List Tie}
theorem XJ(h:bZ M w 40 vs)(d:PyData):∃L,bF [.c w,.d d] M=some (aIO (I 40),M++L):=by
 have m1:=h.many (γ:=[some (.c w),some (.d d)]) (f:=aD 0) rfl;have rs:=RC (γ:=[some (.c w),some (.d d)]) (M:=M) (k:=I 40) (fa:=aB (fC (.int 40)) aI) rfl;have n4:((40:Int)==40)=true:=rfl;refine⟨[.dead],?_⟩;simp![bF,gM,m1,rA,n4,rs]
theorem YN(h:bZ M w n vs){d:PyData}(hd:aW d=none)(n40:n<40):∃L,bF [.c w,.d d] M=some (CV (I 0),M++L):=by
 have m1:=h.many (γ:=[some (.c w),some (.d d)]) (f:=aD 0) rfl;have rs:=yU (γ:=[some (.c w),some (.d d)]) (M:=M) (k:=I 0) (fa:=aB (fC (.int 0)) aI) rfl;have n4:(n==40)=false:=by simp;omega
 have rw1:iC d=false:=by cases d<;>first|rfl|cases hd
 refine⟨[.dead],?_⟩;simp![bF,gM,m1,rA,n4,jA,rw1,rs]
theorem MY(h:bZ M w n vs):∀(l:List PyData)(s:Option CD),
 lcP (fun _=>True) (hName 1) iD (aK dZ (aB (cV "Web" "many" (aD 0)) (aB (aD 1) aI))) (l.map .d) [some (.c w),s] M=some ((l.map (newD n)).map .d,M)
 |[]=>fun s=>by unfold lcP;rw[List.map_nil];exact A3 True.intro
 |r::l=>fun s=>by
  have ih:=MY h l (some (.d r));have m1:=h.many (γ:=[some (.c w),some (.d r)]) (f:=aD 0) rfl
  have fc:aK dZ (aB (cV "Web" "many" (aD 0)) (aB (aD 1) aI)) [some (.c w),some (.d r)] M=some (.d (newD n r),M):=by
   simp![m1,aGW]
  rw[C4];unfold lcP;rw[A3 True.intro,show hName 1 (.d r) [some (.c w),s] M=some ([some (.c w),some (.d r)],M)from rfl,A1];dsimp only;rw[show iD [some (.c w),some (.d r)] M=some (true,M)from rfl,A1];dsimp only;rw[A3 rfl,fc,A1];dsimp only;rw[ih,A1];rfl
theorem aAz(h:bZ M w n vs){d:PyData}{b:Nat}(hd:aW d=some l)(hl:l.length<64)(hb:fb n l [] 0=some b)(vl:(vs.filter big).length<=50)(n1:1<=n)(n40:n<40):∃L,bF [.c w,.d d] M=some (CV (I (b:Nat)),M++L):=by
 have cp:bP [some (.c w),some (.d d)] M=some (.c M.length,M++[.lst ((l.map (newD n)).map .d)]):=by
  have it:iT (aD 1) [some (.c w),some (.d d)] M=some ((l.map .d,fun _=>True),M):=by
   simp only[iT,aD,List.getElem?_cons_succ,List.getElem?_cons_zero,Option.bind_some,walked,hd]
  unfold bP aBD wG PB;rw[it,A1];dsimp only;rw[A3 (sz (by rw[A8];omega)),show sM [some 0,none] [some (CD.c w),some (.d d)]=[some (.c w),none]from rfl,MY h l none,A1];dsimp only;rw[A3 (sz (by rw[A8,A8];omega))]
 have web1:=h.up (L:=[.lst ((l.map (newD n)).map .d)])
 have tl:aK mP (aB (cV "Web" "ties" (aD 0)) aI) [some (.c w),some (.d d)] (M++[.lst ((l.map (newD n)).map .d)])=some (.d (.list (aO (vs.filter big))),M++[.lst ((l.map (newD n)).map .d)]):=by
  have t1:=web1.ties (γ:=[some (.c w),some (.d d)]) (f:=aD 0) rfl;have l1:mP [.d (.tuple (bY vs))] (M++[.lst ((l.map (newD n)).map .d)])=some (.d (.list (bY vs)),M++[.lst ((l.map (newD n)).map .d)]):=rfl;simp![t1,l1];rfl
 have ea:vX (.c M.length) (.d (.list (aO (vs.filter big)))) (M++[.lst ((l.map (newD n)).map .d)])=some (.d (.list (l.map (newD n)++aO (vs.filter big))),M++[.lst ((l.map (newD n)).map .d)]):=by
  have a0:YY (.c M.length) (.d (.list (aO (vs.filter big)))) (M++[.lst ((l.map (newD n)).map .d)])=none:=rfl
  have c:FQ (.c M.length) (.d (.list (aO (vs.filter big)))) (M++[.lst ((l.map (newD n)).map .d)])=some (.d (.list (l.map (newD n)++aO (vs.filter big))),M++[.lst ((l.map (newD n)).map .d)]):=by
   unfold FQ;simp only[qT,dF,Option.bind_some];rw[<- D3,pG,A1,A3 (sz (by rw[A9,A8,dD];omega))]
  unfold vX dP BG;rw[a0];dsimp only;rw[c]
 obtain⟨L,eb⟩:=aAg (M:=M++[.lst ((l.map (newD n)).map .d)]) (n:=n+1) (by omega) (by omega) fun N=>XU (M:=N) (ds:=aO (vs.filter big)) (show 0<=n by omega) hl hb;have m1:=h.many (γ:=[some (.c w),some (.d d)]) (f:=aD 0) rfl
 have hf:(aB (fOp dP (cV "Web" "many" (aD 0)) (fC (.int 1))) (aB (fOp vX bP (aK mP (aB (cV "Web" "ties" (aD 0)) aI))) aI)) [some (.c w),some (.d d)] M=some ([I (n+1),.d (.list (l.map (newD n)++aO (vs.filter big)))],M++[.lst ((l.map (newD n)).map .d)]):=by
  have o1:fOp dP (cV "Web" "many" (aD 0)) (fC (.int 1)) [some (.c w),some (.d d)] M=some (I (n+1),M):=by
   simp![m1,mV]
  have o2:fOp vX bP (aK mP (aB (cV "Web" "ties" (aD 0)) aI)) [some (.c w),some (.d d)] M=some (.d (.list (l.map (newD n)++aO (vs.filter big))),M++[.lst ((l.map (newD n)).map .d)]):=by
   unfold fOp;rw[cp,A1];dsimp only;rw[tl,A1];exact ea
  show(fOp dP (cV "Web" "many" (aD 0)) (fC (.int 1)) [some (.c w),some (.d d)] M).bind _=_;rw[o1,A1];show((fOp vX bP _ [some (.c w),some (.d d)] M).bind _).bind _=_;rw[o2];rfl
 have ew:zO "Web" cH (aB (fOp dP (cV "Web" "many" (aD 0)) (fC (.int 1))) (aB (fOp vX bP (aK mP (aB (cV "Web" "ties" (aD 0)) aI))) aI)) [some (.c w),some (.d d)] M=some (CV (I (b:Nat)),M++[.lst ((l.map (newD n)).map .d)]++L):=by
  unfold zO;rw[hf,A1];dsimp only;rw[eb,A1]
 have n4:(n==40)=false:=by simp;omega
 have rw1:iC d=true:=by cases d<;>first|rfl|cases hd
 refine⟨[.lst ((l.map (newD n)).map .d)]++L,?_⟩;rw[<- B2];simp![bF,gM,m1,rA,n4,jA,rw1,ew]
theorem SJ:∀{l:List PyData}{kn:List Int}{k:Nat},fb n l kn k=none->kn.Nodup->∃es:List Tie,Paired (WV M) (l.map .d) es/\(∀t∈es,fR t.a t.b=true/\0<=t.i/\t.i<n/\t.j=n)/\(kn++es.map Tie.i).Nodup
 |[],kn,k=>fun _ nd=>⟨[],.nil,(fun _ h=>nomatch h),by simpa using nd⟩
 |r::l,kn,k=>fun h nd=>by
  unfold fb at h;cases ht:endOf n r with
  |none=>rw[ht]at h;cases h
  |some t=>
   rw[ht]at h;dsimp only at h;obtain⟨u,hr,hw,hv,i0,i1,hj⟩:=pC ht;by_cases hm:t.i∈kn
   .rw[A3 hm]at h;cases h
   .rw[A5 hm]at h
    obtain⟨es,p,ok,nd'⟩:=SJ h (by
     rw[O8];exact⟨nd,by simp,fun a ha b hb e=>hm (by rw[List.mem_singleton.mp hb]at e;rw[<- e];exact ha)⟩)
    refine⟨t::es,.cons (.inl ⟨r,u,rfl,hr,hw⟩) p,fun s hs=>?_,by rw[B2]at nd';exact nd'⟩;rcases List.mem_cons.mp hs with rfl|hs
    .exact⟨hv,i0,i1,hj⟩
    .exact ok s hs
theorem aAO:∀{es:List Tie},(es.map Tie.i).Nodup->(es.map Tie.key).Nodup
 |[]=>fun _=>J9
 |t::es=>fun h=>by
  rw[C4,Y4]at h ⊢;refine⟨fun z=>h.1 ?_,aAO h.2⟩;obtain⟨s,hs,e⟩:=List.mem_map.mp z;have e1:(Sum.inl s.i:Key)=.inl t.i:=(List.cons.inj e).1;rw[<- Sum.inl.inj e1];exact J4 hs
theorem VL(h:zC M w n vs us){d:PyData}(hd:aW d=some l)(hl:l.length<=13)(hb:fb n l [] 0=none)(vl:(vs.filter big).length<=50)(n1:1<=n)(n40:n<40):
 ∃L w' vs',bF [.c w,.d d] M=some (.v (.c w'),M++L)/\bZ (M++L) w' (n+1) vs':=by
 obtain⟨es,p,ok,nd⟩:=SJ (M:=M) hb J9;have rw1:iC d=true:=by cases d<;>first|rfl|cases hd
 have el:l.length=es.length:=by have:=Paired.len p;rwa [A8]at this
 have ec:ON M (.d d) es:=⟨l.map .d,fun _=>True,by simp only[walked,hd,Option.bind_some],True.intro,by rw[jA,rw1],p⟩;obtain⟨L,w',vs',e,hw,_⟩:=JF h.web ec ⟨ok,aAO nd⟩ h.tok h.nd (by omega) vl n1 n40;exact⟨L,w',vs',e,hw⟩
theorem zY(h:bZ M w n vs){d:PyData}(hp:plc n d=false\/n=1):cG [.c w,.d d] M=some (aJK,M):=by
 have m1:=h.many (γ:=[some (.c w),some (.d d),none,none]) (f:=aD 0) rfl;have pl:=lX n d M;cases hq:plc n d with
 |false=>
  rw[hq]at pl;simp![cG,fG,m1,pl]
 |true=>
  rcases hp with hp|rfl
  .rw[hp]at hq;cases hq
  .rw[hq]at pl;have n1:((1:Int)==1)=true:=rfl;simp![cG,fG,m1,pl,rA,n1]
end
noncomputable def ans(s:Str)(k:Int):PyData:=.tuple [.str s,.int k,.bool true]
theorem aDg(p:PyData)(n:Int)(M:Sto):iB [.d p,I 0,I (n-1)] M=some (B (plc n p),M):=by
 cases p with
 |int i=>
  have hc:plc n (.int i)=(decide (0<=i)&&decide (i<=n-1)):=by
   show(decide (0<=i)&&decide (i<n))=_;rw[show decide (i<n)=decide (i<=n-1)from decide_eq_decide.mpr (by omega)]
  have w1:nO "int" (.int i)=true:=rfl;have w2:nO "bool" (.int i)=false:=rfl;rw[hc];cases h0:decide (0<=i)<;>simp![iB,kR,w1,w2,h0,Bool.true_and,Bool.false_and]
 |_=>rfl
theorem KN(h:aW r=some ds)(M:Sto):gP [.d r] M=some (I ds.length,M):=by
 cases r<;>first|(cases h;rfl)|cases h
theorem NB(h:iC r=true):∃ds,aW r=some ds:=by
 cases r<;>first|exact⟨_,rfl⟩|cases h
theorem xW{ds:List PyData}(h:oks r=true)(e:aW r=some ds):∀d∈ds,oks d=true:=by
 have:eW ds=true:=by cases r<;>first|(cases e;exact h)|cases e
 clear h e
 induction ds with
 |nil=>exact fun d hd=>nomatch hd
 |cons x xs ih=>
  unfold eW at this;rw[B4]at this;intro d hd;rcases List.mem_cons.mp hd with rfl|hd
  .exact this.1
  .exact ih this.2 d hd
theorem aEO{k:Nat}(ho:oks r=true)(ht:endOf n r=none):bR (LG n x c k r) M=some (.rt (.d (ans "tie" (k:Nat))),M):=by
 cases hr:iC r with
 |false=>simp![bR,cE,hr,z3,ans]
 |true=>
  obtain⟨ds,hd⟩:=NB hr;cases h2:((ds.length:Int)==2)with
  |false=>simp![bR,cE,hr,KN hd,yZ,h2,z3,ans]
  |true=>
   have h2':cZ r 2=true:=by unfold cZ;rw[hd];exact h2
   obtain⟨kk,p,q,rfl⟩:=tY h2';obtain⟨x0,x1⟩:=ix2 (eK kk p q) M;have oq:oks q=true:=xW ho (eK ..) q (by simp);have l2:gP [.d (R2' kk p q)] M=some (I 2,M):=KN (eK kk p q) M;have n2:((2:Int)==2)=true:=rfl;have ei:=XY (n:=n) (k:=kk) (p:=p) (q:=q);rw[ht,Option.isSome_none]at ei;cases hp:plc n p with
   |false=>simp![bR,cE,hr,l2,yZ,n2,x0,aDg,hp,z3,ans]
   |true=>
    rw[hp,Bool.true_and]at ei;simp![bR,cE,hr,l2,yZ,n2,x0,x1,aDg,hp,kQ q M oq,<- ei,z3,ans]
theorem aEI(l:List Int)(p:Int):(l.map PyData.int).any (fun d=>PyData.eqv d (.int p))=decide (p∈l):=by
 rw[List.any_map,O3];simp only[List.any_eq_true,Function.comp,DN,decide_eq_true_eq,beq_iff_eq];exact⟨fun⟨q,h,e⟩=>e▸h,fun h=>⟨p,h,rfl⟩⟩
theorem TY{n:Nat}{M:Sto}:∀ds:List PyData,cM n M (ds.map .d)=some ds
 |[]=>by unfold cM;rfl
 |d::ds=>by
  rw[C4];unfold cM;rw[eP,A1,TY ds];rfl
theorem aKx{l:List Int}{i:Int}(h:M[c]?=some (.lst ((l.map PyData.int).map .d))):inC false (I i) (.c c) M=some (B (decide (i∈l)),M):=by
 have s1:snap 5 M (.c c)=some (.list (l.map PyData.int)):=by
  unfold snap;rw[h];dsimp only;rw[TY,A1]
 have s2:(SeqAt.shaped (.int i)&&(l.map PyData.int).all SeqAt.shaped)=true:=by
  rw[B4];refine⟨rfl,List.all_eq_true.mpr fun d hd=>?_⟩;obtain⟨p,_,rfl⟩:=List.mem_map.mp hd;rfl
 unfold inC;rw[eP,A1,s1,A1];show(some (l.map PyData.int)).bind _=_;rw[A1,A3 s2,A5 A4,aEI]
theorem YL{x:CD}{k:Nat}{t:Tie}{l:List Int}(ho:oks r=true)(ht:endOf n r=some t)(h:M[c]?=some (.lst ((l.map PyData.int).map .d)))(hl:l.length<1000):
 bR (LG n x c k r) M=if t.i∈l then some (.rt (.d (ans "tie" (k:Nat))),M)else some (.nx (LG n x c k r),M.set c (.lst (((l++[t.i]).map PyData.int).map .d))):=by
 obtain⟨w,hr,hw,hv,i0,i1,hj⟩:=pC ht;have h2:cZ r 2=true:=by unfold cZ;rw[hr];rfl
 obtain⟨kk,p,q,rfl⟩:=tY h2;rw[eK]at hr;cases hr;obtain⟨x0,x1⟩:=ix2 (eK kk (.int t.i) w) M;have rr:iC (R2' kk (.int t.i) w)=true:=aAy ..;have ow:oks w=true:=xW ho (eK ..) w (by simp);have l2:gP [.d (R2' kk (.int t.i) w)] M=some (I 2,M):=KN (eK kk (.int t.i) w) M;have n2:((2:Int)==2)=true:=rfl;have hw':fA w=true:=by unfold fA;rw[hw];exact hv
 have hp:plc n (.int t.i)=true:=by simp only[plc,decide_eq_true i0,decide_eq_true i1,Bool.and_true]
 have ei:=aKx (i:=t.i) h;by_cases hm:t.i∈l
 .rw[A3 hm];have hm':decide (t.i∈l)=true:=C7 hm;simp![bR,cE,rr,l2,yZ,n2,x0,x1,kQ w M ow,hw',aDg,hp,ei,hm',z3,ans]
 .rw[A5 hm];have hm':decide (t.i∈l)=false:=B9 hm
  have ap:hV (.c c) [I t.i] M=some (.d .none,M.set c (.lst (((l++[t.i]).map PyData.int).map .d))):=by
   have hz:((l.map PyData.int).map CD.d).length<sizeLine:=by rw[A8,A8,E1];omega
   unfold hV;dsimp only;rw[h];dsimp only;rw[A3 hz,D3,D3];rfl
  have ty:tyB "list" M (.c c)=true:=by unfold tyB;dsimp only;rw[h];rfl
  simp![bR,cE,rr,l2,yZ,n2,x0,x1,kQ w M ow,hw',aDg,hp,ei,hm',zF,ty,ap]
noncomputable def lU(k:Nat)(l:List PyData):List CD:=(l.zipIdx k).map fun p=>.d (.tuple [.int (p.2:Nat),p.1])
theorem UY(k:Nat)(r:PyData)(l:List PyData):lU k (r::l)=.d (.tuple [.int (k:Nat),r])::lU (k+1) l:=rfl
noncomputable abbrev G2:GF:=qP 2 (bL (hName 3) (bL (hName 4) kO))
theorem YO{k:Nat}{g3 g4:Option CD}:G2 (.d (.tuple [.int (k:Nat),r])) [some (I n),some x,some (.c c),g3,g4] M=some (LG n x c k r,M):=rfl
theorem LQ{n:Int}{x:CD}{M:Sto}:∀(l:List PyData)(kn:List Int)(k:Nat)(g3 g4:Option CD),(∀r∈l,oks r=true)->kn.length+l.length<1000->
 ∃L,match fb n l kn k with
  |some b=>kZ G2 bR (lU k l) [some (I n),some x,some (.c M.length),g3,g4] (M++[.lst ((kn.map PyData.int).map .d)])=some (.rt (.d (ans "tie" (b:Nat))),M++L)
  |none=>∃g3' g4',kZ G2 bR (lU k l) [some (I n),some x,some (.c M.length),g3,g4] (M++[.lst ((kn.map PyData.int).map .d)])=some (.nx [some (I n),some x,some (.c M.length),g3',g4'],M++L)
 |[]=>fun kn k g3 g4 _ _=>⟨_,_,_,rfl⟩
 |r::l=>fun kn k g3 g4 ho hl=>by
  have or:=ho r B3;rw[UY];unfold fb;cases ht:endOf n r with
  |none=>
   refine⟨[.lst ((kn.map PyData.int).map .d)],?_⟩;dsimp only;unfold kZ;rw[YO,A1];dsimp only;rw[aEO or ht,A1]
  |some t=>
   have tn:=YL (x:=x) (k:=k) or ht (dF (M:=M) (c:=.lst ((kn.map PyData.int).map .d))) (by omega);dsimp only;by_cases hm:t.i∈kn
   .rw[A3 hm]at tn;rw[A3 hm];refine⟨[.lst ((kn.map PyData.int).map .d)],?_⟩;dsimp only;unfold kZ;rw[YO,A1];dsimp only;rw[tn,A1]
   .rw[A5 hm]at tn;rw[A5 hm];obtain⟨L,ih⟩:=LQ (n:=n) (x:=x) (M:=M) l (kn++[t.i]) (k+1) (some (I (k:Nat))) (some (.d r)) (fun r' h=>ho r' (B1 _ h)) (by rw[A9];simp only[List.length_cons,List.length_nil]at hl ⊢;omega);rw[HY]at tn
    have step:∀y,kZ G2 bR (lU (k+1) l) [some (I n),some x,some (.c M.length),some (I (k:Nat)),some (.d r)] (M++[.lst (((kn++[t.i]).map PyData.int).map .d)])=y->
     kZ G2 bR (.d (.tuple [.int (k:Nat),r])::lU (k+1) l) [some (I n),some x,some (.c M.length),g3,g4] (M++[.lst ((kn.map PyData.int).map .d)])=y:=fun y hy=>by
     rw[<- hy]
     conv=>lhs;unfold kZ
     rw[YO,A1];dsimp only;rw[tn,A1]
    refine⟨L,?_⟩;cases hf:fb n l (kn++[t.i]) (k+1)with
    |none=>rw[hf]at ih;obtain⟨γ',γ'',e⟩:=ih;exact⟨γ',γ'',step _ e⟩
    |some b=>rw[hf]at ih;exact step _ ih
noncomputable def BE(n:Int)(d:PyData):PyData:=match aW d with
 |none=>ans "tie" 0
 |some l=>match fb n l [] 0 with
  |some b=>ans "tie" (b:Nat)
  |none=>ans "web" (n+1)
noncomputable def OE(d:PyData):Prop:=∀l,aW d=some l->l.length<=13/\∀r∈l,oks r=true
theorem aFG{d:PyData}(h:OE d)(n40:n<40):∃L,iI [I n,.d d] M=some (.d (BE n d),M++L):=by
 have n4:(n==40)=false:=by simp;omega
 unfold BE;cases hr:iC d with
 |false=>
  have hd:aW d=none:=by cases d<;>first|rfl|cases hr
  refine⟨[],?_⟩;rw[hd,C5];simp![iI,kF,rA,n4,cE,hr,EA];rfl
 |true=>
  obtain⟨l,hd⟩:=NB hr;obtain⟨hl,ho⟩:=h l hd;obtain⟨L,e⟩:=LQ (n:=n) (x:=.d d) (M:=M) l [] 0 none none ho (by simp only[List.length_nil];omega)
  have en:OB (aB (aD 1) aI) [some (I n),some (.d d),some (.c M.length),none,none] (M++[.lst []])=some (lU 0 l,M++[.lst []]):=by
   simp![OB,hd];rfl
  have z0:(0:Nat)<=sizeLine:=D6 _;have m0:(M++[Cell.lst []])=M++[.lst ((([]:List Int).map PyData.int).map .d)]:=rfl;refine⟨L,?_⟩;rw[hd];dsimp only;cases hf:fb n l [] 0 with
  |none=>
   rw[hf]at e;obtain⟨γ',γ'',e⟩:=e;rw[<- m0]at e;simp![iI,kF,rA,n4,cE,hr,wG,if_pos z0,uC,en,e,mV,z3,ans]
  |some b=>
   rw[hf]at e;dsimp only at e;rw[<- m0]at e;simp![iI,kF,rA,n4,cE,hr,wG,if_pos z0,uC,en,e]
theorem alone{fr:Bool}{fs:List (Str×CD)}(h:M[i]?=some (.exc fr nm fs))(hn:nm="NoTie"\/nm="NoPlace"\/nm="TooMany"):eX [.c i] M=some (B true,M):=by
 have c1:iK.lookup nm=some true:=by rcases hn with rfl|rfl|rfl<;>decide
 have c2:fI.lookup nm=some true:=by rcases hn with rfl|rfl|rfl<;>decide
 have c3:lO.lookup nm=some false:=by rcases hn with rfl|rfl|rfl<;>decide
 have c4:iG.lookup nm=some false:=by rcases hn with rfl|rfl|rfl<;>decide
 simp![eX,lK,h,c1,c2,c3,c4]
section
variable{M L:Sto}{w:Nat}{d:PyData}
theorem UM{b:Bool}:IS (aD 2) [some (.c w),some (.d d),some (B b),some (.d .none),none] M=some (b,M):=rfl
theorem HG(h:bF [.c w,.d d] M=some (CV (I b),M++L)):∃L',bJ [.c w,.d d,B false] M=some (.d (ans "tie" b),M++L'):=by
 have ex:(M++L++[Cell.exc false "NoTie" [("at",I b)]])[(M++L).length]?=some (.exc false "NoTie" [("at",I b)]):=dF;have al:=alone ex (.inl rfl);have t1:([("NoTie",false),("TooMany",true),("NoPlace",false)]:List (Str×Bool)).lookup ("NoTie":Str)=some false:=by decide
 have t2:([("NoTie",true),("TooMany",false),("NoPlace",false)]:List (Str×Bool)).lookup ("NoTie":Str)=some true:=by decide
 have t3:lR.lookup ("NoTie":Str)=some false:=by decide
 have xo:excOf (M++L++[Cell.exc false "NoTie" [("at",I b)]]) (.c (M++L).length)=some ((M++L).length,false,(("NoTie":Str),([("at",I b)]:List (Str×CD)))):=by unfold excOf;dsimp only;rw[ex]
 have lk:List.lookup ("at":Str) [("at",I b)]=some (I b):=rfl;have mem:("NoTie":Str)∈(["NoTie"]:List Str):=List.mem_singleton.mpr rfl;refine⟨L++[.exc false "NoTie" [("at",I b)]],?_⟩;rw[<- B2];simp![bJ,gK,gG,tD,PK,zP,NU,xIf,UM,h,t1,t2,HB,xo,if_pos mem,lk,al,ex,t3,z3,ans]
theorem PR(h:bF [.c w,.d d] M=some (aIO (I b),M++L)):∃L',bJ [.c w,.d d,B false] M=some (.d (ans "many" b),M++L'):=by
 have ex:(M++L++[Cell.exc false "TooMany" [("most",I b)]])[(M++L).length]?=some (.exc false "TooMany" [("most",I b)]):=dF;have al:=alone ex (.inr (.inr rfl));have t1:([("NoTie",false),("TooMany",true),("NoPlace",false)]:List (Str×Bool)).lookup ("TooMany":Str)=some true:=by decide
 have t3:jY.lookup ("TooMany":Str)=some false:=by decide
 have xo:excOf (M++L++[Cell.exc false "TooMany" [("most",I b)]]) (.c (M++L).length)=some ((M++L).length,false,(("TooMany":Str),([("most",I b)]:List (Str×CD)))):=by unfold excOf;dsimp only;rw[ex]
 have lk:List.lookup ("most":Str) [("most",I b)]=some (I b):=rfl;have mem:("TooMany":Str)∈(["TooMany"]:List Str):=List.mem_singleton.mpr rfl;refine⟨L++[.exc false "TooMany" [("most",I b)]],?_⟩;rw[<- B2];simp![bJ,gK,gG,rO,PK,zP,NU,xIf,UM,h,t1,HB,xo,if_pos mem,lk,al,ex,t3,z3,ans]
theorem zS(h:cG [.c w,.d d] M=some (aJK,M)):∃L',bJ [.c w,.d d,B true] M=some (.d (ans "place" 0),M++L'):=by
 have ex:(M++[Cell.exc false "NoPlace" []])[M.length]?=some (.exc false "NoPlace" []):=dF;have al:=alone ex (.inr (.inl rfl));have t1:([("NoTie",false),("TooMany",true),("NoPlace",false)]:List (Str×Bool)).lookup ("NoPlace":Str)=some false:=by decide
 have t2:([("NoTie",true),("TooMany",false),("NoPlace",false)]:List (Str×Bool)).lookup ("NoPlace":Str)=some false:=by decide
 have t4:([("NoTie",false),("TooMany",false),("NoPlace",true)]:List (Str×Bool)).lookup ("NoPlace":Str)=some true:=by decide
 have t3:jY.lookup ("NoPlace":Str)=some false:=by decide
 refine⟨[.exc false "NoPlace" []],?_⟩;simp![bJ,gK,gG,sY,PK,zP,NU,xIf,UM,h,t1,t2,t4,al,ex,t3,z3,ans]
theorem WE{w':Nat}(h:bF [.c w,.d d] M=some (.v (.c w'),M++L))(hw:bZ (M++L) w' n vs):∃L',bJ [.c w,.d d,B false] M=some (.d (ans "web" n),M++L'):=by
 have ob:=hw.obj;have lk:List.lookup ("many":Str) [("many",I n),("ties",.d (.tuple (bY vs))),("weights",.c (w'+2))]=some (I n):=rfl;refine⟨L,?_⟩;simp![bJ,gK,gG,PK,zP,NU,xIf,UM,h,ob,lk,z3,ans]
end
theorem aEJ{d:PyData}(h:zC M w n vs us)(vl:(vs.filter big).length<=50)(n1:1<=n)(n40:n<40)(hd:OE d):∃L,bJ [.c w,.d d,B false] M=some (.d (BE n d),M++L):=by
 unfold BE;cases e:aW d with
 |none=>
  obtain⟨L,r⟩:=YN h.web e n40;exact HG r
 |some l=>
  obtain⟨hl,ho⟩:=hd l e;dsimp only;cases hf:fb n l [] 0 with
  |some b=>
   obtain⟨L,r⟩:=aAz h.web e (by omega) hf vl n1 n40;exact HG r
  |none=>
   obtain⟨L,w',vs',r,hw⟩:=VL h e hl hf vl n1 n40;exact WE r hw
theorem IQ{d:PyData}(h:oks d=true)(hl:∀l,aW d=some l->l.length<=13):OE d:=fun l e=>⟨hl l e,xW h e⟩
theorem aAF{es:List Tie}{N:Int}(h:EOk n N es)(n40:n<=40):∀d∈aU es,oks d=true:=fun d hd=>by
 obtain⟨t,ht,rfl⟩:=List.mem_map.mp hd;obtain⟨h1,h2,h3,_⟩:=h.ok t ht;obtain⟨a0,a1,b0,b1⟩:=aAd h1;simp only[fE,oks,eW,Bool.and_true,Bool.and_eq_true];exact⟨gH (tI h2 (by omega)),gH (tI a0 a1),gH (tI (by omega) (by omega))⟩
noncomputable def OY(n:Int):List PyData:=[.tuple [.int n,.tuple [.int 1,.int 1]],.tuple [.int 0,.tuple [.int 2,.int 2]],.tuple [.bool true,.tuple [.int 1,.int 1]],.tuple [.int 0,.int 1],.tuple [.int 0],.tuple [.int 0,.tuple [.int 1,.int 1],.int 1],.int 7,.none]
theorem aBg{n:Int}(h0:0<=n)(h1:n<=40):∀d∈OY n,oks d=true:=fun d hd=>by
 have hn:=gH (tI h0 (show n<=1000000000000 by omega));have sm:∀i:Int,0<=i->i<=7->oks (.int i)=true:=fun i a b=>gH (tI a (by omega));have h0:=sm 0 (by decide) (by decide);have h1:=sm 1 (by decide) (by decide);have h2:=sm 2 (by decide) (by decide);have h7:=sm 7 (by decide) (by decide);unfold OY at hd;simp only[List.mem_cons,List.not_mem_nil,or_false]at hd;rcases hd with rfl|rfl|rfl|rfl|rfl|rfl|rfl|rfl
 .show(oks (.int n)&&((oks (.int 1)&&(oks (.int 1)&&true))&&true))=true;rw[hn,h1];rfl
 .show(oks (.int 0)&&((oks (.int 2)&&(oks (.int 2)&&true))&&true))=true;rw[h0,h2];rfl
 .show(true&&((oks (.int 1)&&(oks (.int 1)&&true))&&true))=true;rw[h1];rfl
 .show(oks (.int 0)&&(oks (.int 1)&&true))=true;rw[h0,h1];rfl
 .show(oks (.int 0)&&true)=true;rw[h0];rfl
 .show(oks (.int 0)&&((oks (.int 1)&&(oks (.int 1)&&true))&&(oks (.int 1)&&true)))=true;rw[h0,h1];rfl
 .exact h7
 .rfl
theorem aAZ{x:Cell}(h:M.length<=c)(N:Sto)(k:Kp i M N):Kp i M (N.set c x):=fun q y hq e=>by
 have hl:=(List.getElem?_eq_some_iff.mp e).1;rw[D4 (by omega)];exact k q y hq e
theorem RX{x:Cell}(h:Stm M i)(hc:c≠i):Stm (M.set c x) i:=by
 obtain⟨a,b,h1,r⟩:=h;exact⟨a,b,by rw[D4 hc];exact h1,r⟩
theorem Stm.app(h:Stm M i):Stm (M++L) i:=by
 have lt:=h.lt;obtain⟨a,b,h1,r⟩:=h;exact⟨a,b,by rw[C1 lt];exact h1,r⟩
theorem Kp.sub(k:Kp i (M++L) N):Kp i M N:=Kp.trans Kp.app k
theorem aKc{ns:List Int}{N:Int}(h:Stm M s)(he:EOk n N es)(el:es.length<=9)(n0:1<=n)(n40:n<=40):
 ∃one two d M',jQ [.c s,Sc ns,I n,.d (.list (aU es))] M=some (.d (.list [one,two,d]),M')/\OE one/\OE two/\OE d/\Stm M' s/\Kp s M M':=by
 have eo:=aAF he n40
 have ln:∀N,gP [.d (.list (aU es))] N=some (I es.length,N):=fun N=>by
  unfold gP;dsimp only;rw[show aW (.list (aU es))=some (aU es)from rfl,A1,eF]
 obtain⟨r,M1,e1,r0,r1,n1⟩:=fS (m:=(es.length:Int)+1) h (by omega) (by
  have:(2:Int) ^ 200=1606938044258990275541962092341162602522202993782792835301376:=by decide
  omega)
 have s1:=n1.stm h;obtain⟨r,rfl⟩:∃z:Nat,r=(z:Int):=⟨r.toNat,by omega⟩;obtain⟨l0,hl0⟩:∃l0,l0=OY n++pD (aU es) none (some 1):=⟨_,rfl⟩;have lc:(pD (aU es) none (some 1)).length<=9:=C8 (aCC ..) (by rw[eF];exact el);have l0l:8<=l0.length/\l0.length<=17:=by rw[hl0,A9];constructor<;>show _<;>simp only[OY,List.length_cons,List.length_nil]<;>omega
 have l0o:∀d∈l0,oks d=true:=fun d hd=>by
  rw[hl0]at hd;rcases List.mem_append.mp hd with hd|hd
  .exact aBg (by omega) n40 d hd
  .exact eo d (aDE hd)
 have c1:JS (.d (.list (OY n))) (.d (.list (pD (aU es) none (some 1)))) M1=some (.c M1.length,M1++[.lst (l0.map .d)]):=by
  unfold JS;simp only[qT,Option.bind_some];rw[A3 (sz (by rw[A8,A8];simp only[OY,List.length_cons,List.length_nil];omega)),<- D3,hl0]
 unfold OY at c1;have s2:Stm (M1++[.lst (l0.map .d)]) s:=s1.app;obtain⟨a1,M2,e2,f2,s3,k2⟩:=ZD (ns:=ns) 4 2 (by decide) s2;have e2:eZ 4 [.c s,Sc ns,I 2] (M1++[.lst (l0.map .d)])=some (.d a1,M2):=e2;have slt:s<M1.length:=s1.lt;have g2:M2[M1.length]?=some (.lst (l0.map .d)):=k2 M1.length _ (by omega) dF
 have ap:hV (.c M1.length) [.d a1] M2=some (.d .none,M2.set M1.length (.lst ((l0++[a1]).map .d))):=by
  unfold hV;dsimp only;rw[g2];dsimp only;rw[A3 (by rw[A8,E1];omega),D3];rfl
 have ty:tyB "list" (M1++[.lst (l0.map .d)]) (.c M1.length)=true:=by unfold tyB;dsimp only;rw[dF];rfl
 have g3:(M2.set M1.length (.lst ((l0++[a1]).map .d)))[M1.length]?=some (.lst ((l0++[a1]).map .d)):=by
  rw[E3 (List.getElem?_eq_some_iff.mp g2).1]
 obtain⟨M3,hM3⟩:∃M3,M3=(M2.set M1.length (.lst ((l0++[a1]).map .d))).set M1.length .dead:=⟨_,rfl⟩;have s4:Stm M3 s:=by rw[hM3];exact RX (RX s3 (by omega)) (by omega)
 have k3:Kp s M1 M3:=by rw[hM3];exact aAZ (A7 _) _ (aAZ (A7 _) _ k2.sub)
 have fz:aBv 5 [some (.c s),some (Sc ns),some (I n),some (.d (.list (aU es))),some (I (r:Nat)),some (.c M1.length),none] (M2.set M1.length (.lst ((l0++[a1]).map .d)))=some ([some (.c s),some (Sc ns),some (I n),some (.d (.list (aU es))),some (I (r:Nat)),some (.d (.list (l0++[a1]))),none],M3):=by
  unfold aBv;simp only[List.getElem?_cons_succ,List.getElem?_cons_zero,g3,pG,Option.bind_some,List.set_cons_succ,List.set_cons_zero,hM3]
 have l1o:∀d∈l0++[a1],oks d=true:=fun d hd=>by
  rcases List.mem_append.mp hd with hd|hd
  .exact l0o d hd
  .rw[List.mem_singleton.mp hd];exact f2.1.ok
 have l1l:(l0++[a1]).length=l0.length+1:=by rw[A9];rfl
 generalize l0++[a1]=l1 at l1o l1l fz ap;obtain⟨p1,M4,e4,hp1,n4⟩:=RA (ds:=l1) s4 (by omega) (by omega);have s5:=n4.stm s4;obtain⟨p2,M5,e5,hp2,n5⟩:=RA (ds:=l1) s5 (by omega) (by omega);have s6:=n5.stm s5;obtain⟨d,M6,e6,f6,s7,k6⟩:=ZD (ns:=ns) 4 2 (by decide) s6;have e6:eZ 4 [.c s,Sc ns,I 2] M5=some (.d d,M6):=e6;have kl:r<=(aU es).length:=by rw[eF];omega
 have q1:=PU kl;have q2:=BN kl;have lt:((aU es).take r).length<=es.length:=by rw[J6,eF];omega
 have ld:((aU es).drop r).length<=es.length:=by rw[J7,eF];omega
 have lo:((aU es).take r++[p1]++(aU es).drop r).length=es.length+1:=by
  rw[A9,A9,J6,J7,eF,L5];have:r<=es.length:=by omega
  omega
 have b1:dP (.d (.list ((aU es).take r))) (.d (.list [p1])) M4=some (.d (.list ((aU es).take r++[p1])),M4):=vQ (sz (by rw[A9,L5];omega));have b2:dP (.d (.list ((aU es).take r++[p1]))) (.d (.list ((aU es).drop r))) M4=some (.d (.list ((aU es).take r++[p1]++(aU es).drop r)),M4):=vQ (sz (by rw[lo];omega))
 have fo:∀d∈(aU es).take r++[p1]++(aU es).drop r,oks d=true:=by
  intro d hd;rcases List.mem_append.mp hd with hd|hd
  .rcases List.mem_append.mp hd with hd|hd
   .exact eo d (List.mem_of_mem_take hd)
   .rw[List.mem_singleton.mp hd];exact l1o _ hp1
  .exact eo d (List.mem_of_mem_drop hd)
 generalize (aU es).take r++[p1]++(aU es).drop r=one at b2 lo fo;have lo2:(one++[p2]).length=es.length+2:=by rw[A9,lo];rfl
 have b3:dP (.d (.tuple one)) (.d (.tuple [p2])) M5=some (.d (.tuple (one++[p2])),M5):=cat_tup _ _ _ (sz (by rw[lo,L5];omega))
 have ft:∀d∈one++[p2],oks d=true:=fun d hd=>by
  rcases List.mem_append.mp hd with hd|hd
  .exact fo d hd
  .rw[List.mem_singleton.mp hd];exact l1o _ hp2
 generalize one++[p2]=two at b3 lo2 ft;have t2:∀N:Sto,eY [.d (.list one)] N=some (.d (.tuple one),N):=fun _=>rfl;refine⟨.list one,.tuple two,d,M6,?_,IQ (tT fo) fun l e=>by cases e;omega,IQ (tT ft) fun l e=>by cases e;omega,IQ f6.1.ok fun l e=>C8 (f6.2 l e) (by decide),s7,(((n1.kp.trans k3).trans n4.kp).trans n5.kp).trans k6⟩;simp![jQ,vP,fSl,hX,qS,ln,mV,e1,FR,FO,FB,EY,FF,FK,z2,z8,slL,aBX,c1,aCQ,zF,ty,e2,ap,fz,q1,q2,e4,z1,b1,b2,t2,e5,b3,e6,z3]
theorem KJ{g:GF}{e:EF}(Inv:Ga->Sto->Prop):∀xs:List CD,(∀x∈xs,∀γ M,Inv γ M->∃γ1 M1,g x γ M=some (γ1,M)/\e γ1 M=some (B true,M1)/\Inv γ1 M1)->∀γ M,Inv γ M->∃γ' M',lcF g iD e xs γ M=some ((List.replicate xs.length (PyData.bool true)).map .d,M')/\Inv γ' M'
 |[]=>fun _ γ M h=>⟨γ,M,rfl,h⟩
 |x::xs=>fun hs γ M h=>by
  obtain⟨γ1,M1,e1,e2,h2⟩:=hs x B3 γ M h;obtain⟨γ',M',e3,h3⟩:=KJ Inv xs (fun y hy=>hs y (B1 _ hy)) γ1 M1 h2;refine⟨γ',M',?_,h3⟩;unfold lcF;rw[e1,A1];dsimp only;rw[show iD γ1 M=some (true,M)from rfl,A1];dsimp only;rw[A3 rfl,e2,A1];dsimp only;rw[e3];rfl
theorem oO:∀n:Nat,boolsOf (List.replicate n (.bool true))=some (List.replicate n true)
 |0=>rfl
 |n+1=>by
  show(boolsOf (List.replicate n (.bool true))).bind _=_;rw[oO n];rfl
theorem RR(n:Nat)(M:Sto):CP [.d (.list (List.replicate n (.bool true)))] M=some (B true,M):=by
 unfold CP;dsimp only;rw[oO,A1];have:(List.replicate n true).all id=true:=List.all_eq_true.mpr fun b hb=>(List.mem_replicate.mp hb).2;rw[this]
theorem QE{s:Str}{k:Int}(h:PyData.canLay0 (.str s)=true):SeqAt.shaped (ans s k)=true:=by
 unfold SeqAt.shaped ans;show((PyData.canLay0 (.str s)&&(true&&(true&&true)))&&_)=true;rw[h];rfl
theorem oS(b:Bool)(s:Str)(k:Int)(M:Sto)(h:PyData.canLay0 (.str s)=true):eqX b (.d (ans s k)) (.d (ans s k)) M=some (B (!b),M):=by
 have h1:=QE (k:=k) h;have h2:PyData.eqv (ans s k) (ans s k)=(s==s&&(k==k&&(true==true&&true))):=rfl;cases b
 .show(if (SeqAt.shaped (ans s k)&&SeqAt.shaped (ans s k))=true then some (B (PyData.eqv (ans s k) (ans s k)),M)else none)=_;rw[h1,h2];simp
 .show(if (SeqAt.shaped (ans s k)&&SeqAt.shaped (ans s k))=true then some (B (!PyData.eqv (ans s k) (ans s k)),M)else none)=_;rw[h1,h2];simp
theorem aIC(n:Int)(d:PyData)(M:Sto):eqX true (.d (BE n d)) (.d (BE n d)) M=some (B false,M):=by
 unfold BE;split
 .exact oS true _ _ M (by decide +kernel)
 .split
  .exact oS true _ _ M (by decide +kernel)
  .exact oS true _ _ M (by decide +kernel)
theorem aKv{c d:Int}:eqX true (.d (.tuple [.int a,.int b])) (.d (.tuple [.int c,.int d])) M=some (B (!(a==c&&(b==d&&true))),M):=rfl
theorem aDh:gP [.d (.tuple xs)] M=some (I xs.length,M):=rfl
theorem aEM:gP [.d (.list xs)] M=some (I xs.length,M):=rfl
theorem GI{M:Sto}:∀(es:List Tie)(s:Option CD),(∀t∈es,fR t.a t.b=true)->lcF (hName 0) (gB (fOp (eqX true) (fOp ixF (aD 0) (fC (.int 1))) oA)) (aD 0) ((aU es).map .d) [s] M=some ((aU (es.filter big)).map .d,M)
 |[]=>fun _ _=>rfl
 |t::es=>fun s hw=>by
  have ih:=GI (M:=M) es (some (.d (.tuple (fE t)))) fun u hu=>hw u (B1 _ hu)
  have c1:gB (fOp (eqX true) (fOp ixF (aD 0) (fC (.int 1))) oA) [some (.d (.tuple (fE t)))] M=some (big t,M):=by
   rw[<- TC (hw t B3)];rfl
  show lcF _ _ _ (.d (.tuple (fE t))::(aU es).map .d) [s] M=_;unfold lcF;rw[show hName 0 (.d (.tuple (fE t))) [s] M=some ([some (.d (.tuple (fE t)))],M)from rfl,A1];dsimp only;rw[c1,A1];dsimp only;by_cases hb:big t=true
  .rw[A3 hb,show aD 0 [some (.d (.tuple (fE t)))] M=some (.d (.tuple (fE t)),M)from rfl,A1];dsimp only;rw[ih,A1,U4 hb];rfl
  .rw[A5 hb,ih,U5 hb]
theorem aHq(he:EOk 9 39 es)(el:es.length<=9):∃L,mS [.c s,.d (.list (aU es))] M=some (B true,M++L):=by
 have z0:(0:Nat)<=sizeLine:=D6 _;have ok0:TOk 39 ⟨0,38,1,1⟩:=⟨by decide,by decide,by decide,by decide⟩;have b0:([⟨0,38,1,1⟩]:List Tie).filter big=[⟨0,38,1,1⟩]:=rfl;obtain⟨vs0,pm0,pw0,e0⟩:=QR (M:=M) (n:=39) (γ:=[some (.c s),some (.d (.list (aU es))),none,none,none]) (fa:=aB (fC (.int 39)) (aB uY aI)) (x:=.d (.list (aO [⟨0,38,1,1⟩]))) rfl (IT (OP fun t ht=>by rw[List.mem_singleton.mp ht];exact ok0)) (List.nodup_cons.mpr ⟨List.not_mem_nil,J9⟩) (by decide) (by decide) (by decide);obtain rfl:vs0=[⟨0,38,1,1⟩]:=List.perm_singleton.mp pm0;have w0:=mC (M:=M) (L:=[]) (n:=39) (us:=[⟨0,38,1,1⟩]) (vs:=[⟨0,38,1,1⟩]);rw[C5]at w0;generalize uD M.length 39 [⟨0,38,1,1⟩] [⟨0,38,1,1⟩]=L0 at w0 e0;have he':EOk 39 39 es:=⟨fun t ht=>by obtain⟨x1,x2,x3,x4⟩:=he.ok t ht;exact⟨x1,x2,by omega,x4⟩,he.nd⟩;have ec:ON (M++L0) (.d (.list (aU es))) es:=⟨(aU es).map .d,fun _=>True,rfl,True.intro,jA _ _,JR es⟩;obtain⟨L1,w1,vs1,e1,web1,pm1,_,_⟩:=JF w0 ec he' (fun t ht=>by rw[b0]at ht;rw[List.mem_singleton.mp ht];exact ok0) (by rw[b0];exact List.nodup_cons.mpr ⟨List.not_mem_nil,J9⟩) (by omega) (by rw[b0];decide) (by decide) (by decide)
 have len1:((bY vs1).length:Int)=1+((aU (es.filter big)).length:Int):=by
  have:=(pm1.filter big).length_eq;rw[List.filter_append,A9,b0,b0]at this;unfold bY;rw[A8,this,eF,L5];omega
 rw[show(39:Int)+1=40 from rfl]at web1;have fl:(es.filter big).length<=es.length:=E9 ..
 have c0:oJ [some (.c s),some (.d (.list (aU es))),some (.c M.length),some (.c w1),none] (M++L0++L1)=some (.d (.list (aU (es.filter big))),M++L0++L1):=by
  unfold oJ;exact oH (M1:=M++L0++L1) (xs:=(aU es).map .d) rfl (sz (by rw[A8,eF];omega)) (GI es none fun t ht=>(he.ok t ht).1) (sz (by rw[eF];omega))
 have m1:=web1.many (γ:=[some (.c s),some (.d (.list (aU es))),some (.c M.length),some (.c w1),none]) (f:=aD 3) rfl;have m2:=web1.ties (γ:=[some (.c s),some (.d (.list (aU es))),some (.c M.length),some (.c w1),none]) (f:=aD 3) rfl
 obtain⟨γ9,M9,e9,h9,L9,hM9,_⟩:=KJ (g:=hName 1) (e:=fOp (eqX false) (aK bJ (aB (aD 0) (aB (aD 1) (aB (fC (.bool false)) aI)))) nP)
  (fun γ N=>(∃h,γ=[some (.c w1),h])/\∃L,N=M++L/\bZ N w1 40 vs1) (([.list (aU es),.int 7,.list [.tuple [.int 40,.tuple [.int 1,.int 1]]],.tuple []]:List PyData).map .d) (fun x hx γ N hI=>by
   obtain⟨⟨h,rfl⟩,L,rfl,hw⟩:=hI;obtain⟨d,_,rfl⟩:=List.mem_map.mp hx;obtain⟨L2,ew⟩:=XJ hw d;obtain⟨L3,ef⟩:=PR ew;refine⟨[some (.c w1),some (.d d)],M++L++L3,rfl,?_,⟨_,rfl⟩,L++L3,B2 ..,hw.up⟩;have aa:=oS false "many" 40 (M++L++L3) (by decide +kernel);have k3:nP [some (.c w1),some (.d d)] (M++L++L3)=some (.d (ans "many" 40),M++L++L3):=rfl
   have ef':aK bJ (aB (aD 0) (aB (aD 1) (aB (fC (.bool false)) aI))) [some (.c w1),some (.d d)] (M++L)=some (.d (ans "many" 40),M++L++L3):=by
    simp![ef]
   unfold fOp;rw[ef',A1];dsimp only;rw[k3,A1];exact aa) [some (.c w1),none] (M++L0++L1) ⟨⟨none,rfl⟩,L0++L1,B2 ..,web1⟩
 have c1:nZ [some (.c s),some (.d (.list (aU es))),some (.c M.length),some (.c w1),some (.d (.list [.list (aU es),.int 7,.list [.tuple [.int 40,.tuple [.int 1,.int 1]]],.tuple []]))] (M++L0++L1)=some (.d (.list (List.replicate 4 (.bool true))),M9):=by
  unfold nZ;exact oH (M1:=M++L0++L1) (xs:=([.list (aU es),.int 7,.list [.tuple [.int 40,.tuple [.int 1,.int 1]]],.tuple []]:List PyData).map .d) rfl (sz (by show 4<=1000;decide)) e9 (sz (by show 4<=1000;decide))
 have q:(!((40:Int)==40&&(((bY vs1).length:Int)==1+((aU (es.filter big)).length:Int)&&true)))=false:=by rw[len1];simp
 have a4:=RR 4 M9;simp only[List.replicate]at a4 c1;refine⟨L9,?_⟩;rw[<- hM9];simp![mS,rF,e0,e1,m1,m2,aDh,aEM,c0,mV,z2,aKv,q,BL,z0,z4,c1,a4]
theorem xT{g:GF}{b:SF}(Inv:Ga->Sto->Prop):∀xs:List CD,(∀x∈xs,∀γ M,Inv γ M->∃γ1 M1 γ' M',g x γ M=some (γ1,M1)/\b γ1 M1=some (.nx γ',M')/\Inv γ' M')->∀γ M,Inv γ M->∃γ' M',kZ g b xs γ M=some (.nx γ',M')/\Inv γ' M'
 |[]=>fun _ γ M h=>⟨γ,M,rfl,h⟩
 |x::xs=>fun hs γ M h=>by
  obtain⟨γ1,M1,γ2,M2,e1,e2,h2⟩:=hs x B3 γ M h;obtain⟨γ',M',e3,h3⟩:=xT Inv xs (fun y hy=>hs y (B1 _ hy)) γ2 M2 h2;refine⟨γ',M',?_,h3⟩;unfold kZ;rw[e1,A1];dsimp only;rw[e2,A1];exact e3
theorem UA{lo:Int}{n:Nat}(h:x∈jP lo n):∃j:Nat,j<n/\x=I (lo+j):=by
 unfold jP at h;obtain⟨j,hj,rfl⟩:=List.mem_map.mp h;exact⟨j,List.mem_range.mp hj,rfl⟩
theorem bZ.kp(h:bZ M w n vs)(hs:s<w)(k:Kp s M N):bZ N w n vs:=⟨k _ _ (by omega) h.1,k _ _ (by omega) h.2⟩
section
variable{ns:List Int}{w s:Nat}{n:Int}{vs us es:List Tie}{k:CD}
noncomputable abbrev TG(ns:List Int)(k:CD)(s:Nat)(n:Int)(us:List Tie)(w:Nat)(es:List Tie)(x:Option CD):Ga:=[some (Sc ns),some k,some (.c s),some (I n),some (.d (.list (aO us))),some (.c w),some (.d (.list (aU es))),x]
structure Here(N:Sto)(s w:Nat)(n:Int)(vs us:List Tie):Prop where
 both:zC N w n vs us
 stm:Stm N s
theorem Here.app(h:Here N s w n vs us):Here (N++L) s w n vs us:=⟨⟨h.both.web.up,h.both.pw,h.both.pm,h.both.ok⟩,h.stm.app⟩
theorem aIX{d:PyData}(h:Here N s w n vs us)(ul:us.length<=36)(n1:1<=n)(n9:n<=9)(hd:OE d):∃L,AR (TG ns k s n us w es (some (.d d))) N=some (.nx (TG ns k s n us w es (some (.d d))),N++L):=by
 obtain⟨L1,e1⟩:=aEJ h.both (C8 h.both.len (by omega)) n1 (by omega) hd;obtain⟨L2,e2⟩:=aFG (n:=n) (M:=N++L1) hd (by omega);refine⟨L1++L2,?_⟩;rw[<- B2];simp![AR,e1,e2,aIC]
theorem aJy{d:PyData}(h:Here N s w n vs us)(hd:plc n d=false):∃L,AU (TG ns k s n us w es (some (.d d))) N=some (.nx (TG ns k s n us w es (some (.d d))),N++L):=by
 obtain⟨L1,e1⟩:=zS (zY h.both.web (.inl hd));have k1:SU (TG ns k s n us w es (some (.d d))) (N++L1)=some (.d (ans "place" 0),N++L1):=rfl;have aa:=oS true "place" 0 (N++L1) (by decide +kernel);refine⟨L1,?_⟩;simp![AU,e1,k1,aa,Bool.not_true]
theorem aIU(h:Here N s w n vs us)(ul:us.length<=36)(n2:2<=n)(n9:n<=9)(x:Option CD):∃N',AM (TG ns k s n us w es x) N=some (.d (.list (List.replicate n.toNat (.bool true))),N')/\Here N' s w n vs us:=by
 obtain⟨γ',N',e,_,h'⟩:=KJ (g:=hName 2) (e:=aK kM (aB (aD 0) (aB (aD 1) (aB (aD 2) aI))))
  (fun γ M=>(∃y,γ=[some (.c w),some (.d (.list (aO us))),y])/\Here M s w n vs us) (jP 0 n.toNat) (fun x hx γ M hI=>by
   obtain⟨⟨y,rfl⟩,hh⟩:=hI;obtain⟨j,hj,rfl⟩:=UA hx;obtain⟨L,eg⟩:=aGL hh.both (p:=0+(j:Int)) (by omega) (by omega) n2 n9 ul;refine⟨_,M++L,rfl,?_,⟨_,rfl⟩,hh.app⟩;simp![eg]) [some (.c w),some (.d (.list (aO us))),none] N ⟨⟨none,rfl⟩,h⟩
 have rl:(jP 0 n.toNat).length=n.toNat:=by simp[jP]
 rw[rl]at e;refine⟨N',?_,h'⟩
 have sm:fV n=true:=by
  simp only[fV,Bool.and_eq_true,decide_eq_true_eq];omega
 have it:kH (aB (aD 3) aI) (TG ns k s n us w es x) N=some (jP 0 n.toNat,N):=by
  simp![kH,sm]
 unfold AM;exact oH it (sz (by rw[rl];omega)) e (sz (by rw[List.length_replicate];omega))
end
noncomputable def GN(n:Int):List PyData:=[.int n,.int (-1),.bool true,.none,.str "0",.tuple [.int 0],.int 1000000000000000000000000000000,.dict []]
theorem aAT{n:Int}(n9:n<=9):∀d∈GN n,plc n d=false:=fun d hd=>by
 unfold GN at hd;simp only[List.mem_cons,List.not_mem_nil,or_false]at hd;rcases hd with rfl|rfl|rfl|rfl|rfl|rfl|rfl|rfl
 .simp only[plc,decide_eq_false (show ¬n<n by omega),Bool.and_false]
 .rfl
 .rfl
 .rfl
 .rfl
 .rfl
 .simp only[plc,decide_eq_false (show ¬(1000000000000000000000000000000:Int)<n by omega),Bool.and_false]
 .rfl
theorem turn{ns:List Int}{k:Int}{g2 g3 g4 g5 g6 g7:Option CD}{M:Sto}(k0:0<=k)(k1:k<4):
 ∃γ' M',AY [some (Sc ns),some (I k),g2,g3,g4,g5,g6,g7] M=some (.nx γ',M')/\∃a1 a2 a3 a4 a5 a6 a7,γ'=[some (Sc ns),a1,a2,a3,a4,a5,a6,a7]:=by
 have z0:(0:Nat)<=sizeLine:=D6 _;obtain⟨M1,e1,s1⟩:=ZA (ns:=ns) (M:=M) k0 (by omega);obtain⟨s,hs⟩:∃i,M.length=i:=⟨_,rfl⟩;rw[hs]at e1 s1;obtain⟨c,M2,e2,c0,c1,n2⟩:=fS (m:=9) s1 (by decide) (by decide);have s2:=n2.stm s1;obtain⟨us,M3,e3,s3,ok,lu⟩:=aGT (n:=1+c) s2 (by omega) (by omega);obtain⟨n,hn⟩:∃n,n=1+c:=⟨_,rfl⟩;rw[<- hn]at e3 ok;obtain⟨vs,pm,pw,e4⟩:=QR (M:=M3) (n:=n) (γ:=[some (Sc ns),some (I k),some (.c s),some (I n),some (.d (.list (aO us))),g5,g6,g7]) (fa:=aB (aD 3) (aB (aD 4) aI)) (x:=.d (.list (aO us))) rfl (IT (OP ok.1)) ok.2.1 ok.2.2 (by omega) (by omega);obtain⟨w,hw⟩:∃w,w=M3.length:=⟨_,rfl⟩;have sw:s<w:=by rw[hw];exact s3.lt
 have w4:=mC (M:=M3) (L:=[]) (n:=n) (us:=us) (vs:=vs);rw[C5]at w4;rw[<- hw]at e4 w4;have s4:Stm (M3++uD w n us vs) s:=s3.app;generalize M3++uD w n us vs=M4 at e4 w4 s4;obtain⟨es,M5,e5,s5,k5,he,el⟩:=aCl (n:=n) (N:=n) s4 (by omega) (by omega);have b5:zC M5 w n vs us:=⟨w4.kp sw k5,pw,pm.filter big,ok⟩;obtain⟨M6,e6,k6⟩:=aGh b5 he el lu (by omega) (by omega)
 have h6:Here M6 s w n vs us:=⟨⟨⟨k6 _ _ b5.web.1,k6 _ _ b5.web.2⟩,pw,pm.filter big,ok⟩,by
  obtain⟨a,b,h1,r⟩:=s5;exact⟨a,b,k6 _ _ h1,r⟩⟩
 obtain⟨M7,e7,h7⟩:∃M7,((decide (n > 1)=true/\AM (TG ns (I k) s n us w es g7) M6=some (.d (.list (List.replicate n.toNat (.bool true))),M7))\/(decide (n > 1)=false/\M6=M7))/\Here M7 s w n vs us:=by
  by_cases q:n > 1
  .obtain⟨M7,e7,h7⟩:=aIU (ns:=ns) (k:=I k) (es:=es) h6 lu (by omega) (by omega) g7;exact⟨M7,.inl ⟨C7 q,e7⟩,h7⟩
  .exact⟨M6,.inr ⟨B9 q,rfl⟩,h6⟩
 have a7:=RR n.toNat M7;obtain⟨one,two,d,M8,e8,q1,q2,q3,s8,k8⟩:=aKc (ns:=ns) h7.stm he el (by omega) (by omega);have h8:Here M8 s w n vs us:=⟨⟨h7.both.web.kp sw k8,pw,pm.filter big,ok⟩,s8⟩
 obtain⟨γ9,M9,e9,⟨h9,rfl⟩,t9⟩:=xT (g:=hName 7) (b:=AR) (fun γ N=>(∃h,γ=TG ns (I k) s n us w es h)/\Here N s w n vs us) (([one,two,d]:List PyData).map .d) (fun x hx γ N hI=>by
  obtain⟨⟨h,rfl⟩,sN⟩:=hI;obtain⟨d',hd,rfl⟩:=List.mem_map.mp hx
  have nd:OE d':=by
   simp only[List.mem_cons,List.not_mem_nil,or_false]at hd;rcases hd with rfl|rfl|rfl
   .exact q1
   .exact q2
   .exact q3
  obtain⟨L,e⟩:=aIX (ns:=ns) (k:=I k) (es:=es) sN lu (by omega) (by omega) nd;exact⟨_,N,_,_,rfl,e,⟨_,rfl⟩,sN.app⟩) (TG ns (I k) s n us w es g7) M8 ⟨⟨g7,rfl⟩,h8⟩
 obtain⟨γ10,M10,e10,⟨h10,rfl⟩,t10⟩:=xT (g:=hName 7) (b:=AU) (fun γ N=>(∃h,γ=TG ns (I k) s n us w es h)/\Here N s w n vs us) ((GN n).map .d) (fun x hx γ N hI=>by
  obtain⟨⟨h,rfl⟩,sN⟩:=hI;obtain⟨d',hd,rfl⟩:=List.mem_map.mp hx;obtain⟨L,e⟩:=aJy (ns:=ns) (k:=I k) (es:=es) sN (aAT (by omega) d' hd);exact⟨_,N,_,_,rfl,e,⟨_,rfl⟩,sN.app⟩) (TG ns (I k) s n us w es h9) M9 ⟨⟨h9,rfl⟩,t9⟩
 obtain⟨vs1,pm1,_,e11⟩:=QR (M:=M10) (n:=1) (γ:=TG ns (I k) s n us w es h10) (fa:=aB (fC (.int 1)) (aB (cK aI) aI)) (x:=.d (.tuple [])) (us:=[]) rfl ⟨[],fun _=>True,fun _=>rfl,fun _=>True.intro,fun _=>jA _ _,.nil⟩ J9 (by decide) (by decide) (by decide);have w11:=mC (M:=M10) (L:=[]) (n:=1) (us:=[]) (vs:=vs1);rw[C5]at w11;have s11:Stm (M10++uD M10.length 1 [] vs1) s:=t10.stm.app;generalize M10++uD M10.length 1 [] vs1=M11 at e11 w11 s11;obtain⟨L12,e12⟩:=zS (zY (d:=.int 0) w11 (.inr rfl));have s12:Stm (M11++L12) s:=s11.app;have aa:=oS true "place" 0 (M11++L12) (by decide +kernel);have k2:UH (TG ns (I k) s n us w es h10) (M11++L12)=some (.d (ans "place" 0),M11++L12):=rfl;generalize M11++L12=M12 at e12 s12 aa k2;obtain⟨es9,M13,e13,s13,_,he9,el9⟩:=aCl (n:=9) (N:=39) s12 (by decide) (by decide);obtain⟨L14,e14⟩:=aHq (s:=s) (M:=M13) he9 el9;refine⟨TG ns (I k) s n us w es h10,M13++L14,?_,_,_,_,_,_,_,_,rfl⟩
 have f8:cP (aK jQ (aB (aD 2) (aB (aD 0) (aB (aD 3) (aB (aD 6) aI))))) (TG ns (I k) s n us w es g7) M7=some (([one,two,d]:List PyData).map .d,M8):=by
  unfold cP
  have:aK jQ (aB (aD 2) (aB (aD 0) (aB (aD 3) (aB (aD 6) aI)))) (TG ns (I k) s n us w es g7) M7=some (.d (.list [one,two,d]),M8):=by
   simp![e8]
  rw[this];rfl
 have f10:cP (lM (aB (aD 3) (aB (fUn FP (fC (.int 1))) (aB (fC (.bool true)) (aB (fC .none) (aB (fC (.str "0")) (aB AZ (aB (fOp xS (fC (.int 10)) (fC (.int 30))) (aB yY aI))))))))) (TG ns (I k) s n us w es h9) M9=some ((GN n).map .d,M9):=by
  have p30:(10:Int) ^ Int.toNat 30=1000000000000000000000000000000:=by decide +kernel
  have pk:wK 10 30=true:=by decide +kernel
  have ng:FP (I 1) M9=some (I (-1),M9):=rfl;unfold cP
  have:lM (aB (aD 3) (aB (fUn FP (fC (.int 1))) (aB (fC (.bool true)) (aB (fC .none) (aB (fC (.str "0")) (aB AZ (aB (fOp xS (fC (.int 10)) (fC (.int 30))) (aB yY aI)))))))) (TG ns (I k) s n us w es h9) M9=some (.d (.list (GN n)),M9):=by
   simp![aAb,yY,z8,GN,ng,p30,pk]
  rw[this];rfl
 simp only[List.map_cons,List.map_nil]at e9 f8;simp only[xS,ifS]at f10;rcases e7 with⟨q,e7⟩|⟨q,e7⟩<;>simp![AY,uC,e1,e2,mV,<- hn,e3,e4,e5,e6,q,e7,a7,f8,e9,f10,e10,e11,e12,k2,aa,e13,e14,Bool.not_true]
theorem main(ns:List Int)(hl:ns.length<=63):∃M',F_law [.d (.list (ns.map .int))] []=some (.d (.bool true),M'):=by
 obtain⟨γ2,M2,e2,_⟩:=xT (g:=hName 1) (b:=AY) (fun γ _=>∃a1 a2 a3 a4 a5 a6 a7,γ=[some (Sc ns),a1,a2,a3,a4,a5,a6,a7]) (jP 0 4) (fun x hx γ N hI=>by
  obtain⟨a1,a2,a3,a4,a5,a6,a7,rfl⟩:=hI;obtain⟨j,hj,rfl⟩:=UA hx;obtain⟨γ',M',e,h⟩:=turn (ns:=ns) (k:=0+(j:Int)) (g2:=a2) (g3:=a3) (g4:=a4) (g5:=a5) (g6:=a6) (g7:=a7) (M:=N) (by omega) (by omega);exact⟨_,N,γ',M',rfl,e,h⟩) [some (Sc ns),none,none,none,none,none,none,none] [] ⟨_,_,_,_,_,_,_,rfl⟩
 have sm:fV 4=true:=by decide
 have r4:jP 0 (4:Int).toNat=jP 0 4:=rfl;refine⟨M2,?_⟩;simp![F_law,aBS,uC,kH,sm,r4,e2]
end Q7
end
end
open PySem PySem.W PyProof.Rows
set_option maxRecDepth 100000 in
set_option maxHeartbeats 0 in
theorem PySem.Challenge.cw_cutstree_k07_come_and_gone_holds : PySem.Challenge.rw_cutstree_k07_come_and_gone.Holds := by
 refine Q7.k_top ?_
 k_fill
 refine L2.law_walk (l:=PySem.Challenge.rw_cutstree_k07_come_and_gone) (F:=Q7.F_law) (k:=13) (p:="_law_script") (by decide +kernel) rfl rfl ⟨fun _=>rfl,by decide,by decide,rfl⟩ (fun w h Y=>PySem.W.kIn_of Y) ?T Q7.main
 case T=>
  intro w mg h KX G;refine Q7.fn_law (K:=_) (mg:=mg) ?TT
  refine' Q7.txt_mk KX G ?v0 ?v1 ?v2 ?v3 ?v4 ?v5 ?v6 ?v7 ?v8 ?v9 ?v10 ?v11 ?v12 ?v13 ?v14 ?v15 ?v16 ?v17 ?v18 ?v19 ?v20 ?v21 ?v22 ?v23 ?v24 ?v25 ?v26 ?v27 ?v28 ?v29 ?v30 ?v31 ?v32 ?v33 ?v34 ?v35 ?v36 ?v37 ?v38 ?v39 ?v40 ?v41 ?v42 ?v43 ?v44 ?v45 ?v46 ?v47 ?v48 ?v49 ?v50 ?v51 ?v52 ?v53 ?v54 ?v55 ?v56 ?v57 ?v58 ?v59 ?v60 ?v61 ?v62 ?v63 ?v64 ?v65 ?v66 ?v67 ?v68 ?v69 ?v70 ?v71 ?v72 ?v73 ?v74 ?v75 ?v76 ?v77 ?v78 ?v79 ?v80 ?v81 ?v82 ?v83 ?v84 ?v85 ?v86 ?v87 ?v88 ?v89 ?v90 ?v91 ?v92 ?v93 ?v94 ?v95 ?v96 ?v97 ?v98 ?v99 ?v100 ?v101 ?v102 ?v103 ?v104 ?v105 ?v106 ?v107 ?v108 ?v109 ?v110 ?v111 ?v112 ?v113 ?v114 ?v115 ?v116 ?v117 ?v118 ?v119 ?v120 ?v121 ?v122 ?v123 ?v124 ?v125 ?v126 ?v127 ?v128 ?v129 ?v130 ?v131 ?v132 ?v133 ?v134 ?v135 ?v136 ?v137 ?v138 ?v139 ?v140 ?v141 ?v142 ?v143 ?v144
  (case v0|v1|v2|v3|v4|v5|v6|v7|v8|v9|v10|v11|v12|v13|v14|v15|v16|v17|v18|v20|v21|v22|v23|v24|v28|v29|v30|v31|v32|v33|v35|v36|v37|v38|v39|v40|v42|v43|v44|v46|v47|v48|v49|v52|v55|v58|v71|v75|v79|v83|v84|v86|v87|v88|v89|v91|v93|v94|v95|v96|v98|v99|v100|v101|v102|v105=>k_is)
  (case v19|v25|v26|v27|v34|v41|v45|v50|v51|v53|v54|v56|v57|v59|v60|v61|v62|v63|v64|v65|v66|v67|v68|v69|v70|v72|v73|v74|v76|v77|v78|v80|v81|v82|v85|v90|v92|v97|v103|v104=>kernel_rfl)
  (case v106|v107|v108|v109|v110|v111|v112|v113|v114|v115|v116|v117|v118|v119|v120|v121|v122|v123|v124|v125|v126|v127|v128|v129|v130|v131|v132|v133|v134|v135|v136|v137|v138|v139|v140|v141|v142|v143|v144=>exact L2.def_mk KX G (by k_is) (by k_is) (by k_is) (by k_is))